/- JournalReads, walked. Conditions: none. -/
import Derived.Test.YtgppaompcnllbaaRefRecs
import Derived.Test.YtgppaompcnllbaaLays
import Derived.Test.YtgppaompcnllbaaWrites0
import Derived.Deep.QuietTactic
import Derived.BigQuiet
import Derived.Lib.ConvBytes
namespace Go.Proofs.Ytgppaompcnllbaa
open Go.RowKit

theorem lay_cells {w : World} {B c : Nat} {A : Option Addr} {l : List Ly} (h : Rd w B 5 A l.length c (l.flatMap lyCells)) {k : Nat} {a : Ly} (hk : l[k]? = some a) :
    ∃ b o, A = some ⟨b, o, none⟩ ∧ b < B ∧ w.cell? ⟨b, o + k * 5, none⟩ = some (.int .u8 a.kind) ∧ w.cell? ⟨b, o + k * 5 + 1, none⟩ = some (.int .u8 a.ep) ∧
      w.cell? ⟨b, o + k * 5 + 2, none⟩ = some (.int .u8 a.num) ∧ w.cell? ⟨b, o + k * 5 + 3, none⟩ = some (.int .u16 a.sz) ∧ w.cell? ⟨b, o + k * 5 + 4, none⟩ = some (.slice a.A a.b.length a.c) := by
  have hlt := (List.getElem?_eq_some_iff.1 hk).1
  obtain ⟨b, o, rfl, hb, hc⟩ := h.at_ (by omega)
  have hf : ∀ r, r < 5 → (l.flatMap lyCells)[k * 5 + r]? = (lyCells a)[r]? := fun r hr => by
    rw [List.flatMap_def]
    exact flatten_at (fun x hx => by obtain ⟨y, _, rfl⟩ := List.mem_map.1 hx; rfl) (by rw [List.getElem?_map, hk]; rfl) hr
  refine ⟨b, o, rfl, hb, ?_, ?_, ?_, ?_, ?_⟩
  · exact hc (k * 5) _ ((hf 0 (by omega)).trans rfl)
  · rw [Nat.add_assoc]; exact hc _ _ ((hf 1 (by omega)).trans rfl)
  · rw [Nat.add_assoc]; exact hc _ _ ((hf 2 (by omega)).trans rfl)
  · rw [Nat.add_assoc]; exact hc _ _ ((hf 3 (by omega)).trans rfl)
  · rw [Nat.add_assoc]; exact hc _ _ ((hf 4 (by omega)).trans rfl)
/-- A disk, all of it from M on. -/
def DsL (M : Nat) (w : World) (b : Nat) (s : St) : Prop := M ≤ w.heap.size ∧ ∃ S, Ds S w b s ∧ ∀ k, S k → M ≤ k
theorem DsL.below {M : Nat} {w w' : World} {b : Nat} {s : St} (h : DsL M w b s) (hb : Below w.heap.size w w') : DsL M w' b s := by
  obtain ⟨h0, S, h1, h2⟩ := h
  exact ⟨Nat.le_trans h0 hb.size, S, h1.below hb, h2⟩
theorem bytes_below (W : World) (e : TypeId) (s : ByteArray) : Below W.heap.size W (Lib.bytesWorld W e s) :=
  ⟨by simp [Lib.bytesWorld, World.freeze, World.alloc, World.drew, -World.alloc_eq, -World.drew_eq], by simp [Lib.bytesWorld, World.freeze, World.alloc, World.drew, -World.alloc_eq, -World.drew_eq], by simp [Lib.bytesWorld, World.freeze, World.alloc, World.drew, -World.alloc_eq, -World.drew_eq], by rw [Lib.bytesWorld_size]; omega, fun k hk => Lib.bytesWorld_at_old W e s k hk⟩
theorem bytes_rd (W : World) (e : TypeId) (T : List UInt8) (hT : T.length ≤ 1000) : Rd (Lib.bytesWorld W e (strOf T)) (Lib.bytesWorld W e (strOf T)).heap.size 1 (some ⟨W.heap.size, 0, none⟩) T.length (grownCap W T.length 0 e) (bv T) := by
  refine Rd.of_cells (by rw [bv_length]; omega) (by omega) (grownCap_ge _ _ _ _) (grownCap_le_maxLen _ _ _ _ (by simp only [maxLen]; omega)) (by rw [Lib.bytesWorld_size]; exact Nat.lt_succ_self _) fun j u hj => ?_
  have hjl : j < T.length := by have := (List.getElem?_eq_some_iff.1 hj).1; rwa [bv_length] at this
  have := Lib.bytesWorld_cell W e (strOf T) j (by rw [strOf_size]; exact hjl)
  rw [strOf_list] at this
  have hu : u = .int .u8 (T.getD j 0).toNat := by
    simp [bv, List.getElem?_eq_getElem hjl] at hj
    rw [← hj, List.getD_eq_getElem?_getD, List.getElem?_eq_getElem hjl]
    rfl
  rw [hu]
  by_cases h0 : j = 0
  · subst h0
    simpa [Addr.add] using this
  · simpa [Addr.add, h0] using this
theorem conv_to (W : World) (T : List UInt8) : (convert 9 36 (.string (strOf T))).run Try.prog W = .ok (.slice (some ⟨W.heap.size, 0, none⟩) T.length (grownCap W T.length 0 5)) (Lib.bytesWorld W 5 (strOf T)) := by
  have := Lib.run_convert_string_bytes (P := Try.prog) W 9 36 5 (strOf T) Try.underlying9 Try.underlying36 Try.underlying5
  rw [strOf_size] at this
  exact this
/-- Not dead, not armed, of N sectors; few writes wait. -/
structure Wm (s : St) (k N : Nat) : Prop where
  dead : s.dead = false
  left : s.left ≤ 0
  len : s.kept.length = N
  waits : s.waits.length ≤ k
theorem Wm.write {s : St} {k N : Nat} (h : Wm s k N) (i : Int) (T : List UInt8) : Wm (wrS s i T) (k + 1) N := by
  have hcnt : s.count = s := by unfold St.count; rw [if_neg (by have := h.left; omega)]
  unfold wrS
  split
  · have : s.write i T = s.wrote i T := by unfold St.write; rw [hcnt, if_neg (by rw [h.dead]; decide)]
    rw [this]
    exact ⟨h.dead, h.left, h.len, by simp [St.wrote]; exact h.waits⟩
  · exact ⟨h.dead, h.left, h.len, by have := h.waits; omega⟩
theorem writeX {M : Nat} {W : World} {b k N : Nat} {s : St} (h : DsL M W b s) (hm : Wm s k N) (hk : k ≤ 1000) (T : List UInt8) (hT : T.length ≤ 1000) (i : Int) :
    Calls Try.prog 21 #[.pointer (some ⟨b, 0, none⟩), .int .i64 i, .slice (some ⟨W.heap.size, 0, none⟩) T.length (grownCap W T.length 0 5)] (Lib.bytesWorld W 5 (strOf T)) fun e w' => (∃ v, e = .returned (.int .i64 v)) ∧ DsL M w' b (wrS s i T) ∧ Below M W w' := by
  obtain ⟨h0, S, hD, hS⟩ := h
  have hb := bytes_below W 5 (strOf T)
  have hsz := hD.size
  refine (dWrite (hD.below hb) i (bytes_rd W 5 T hT) (fun _ q o e e2 => (by cases e; have := hsz _ e2; omega)) (by have := hm.waits; omega)).mono fun e w' ⟨he, hd, hk⟩ => ⟨⟨_, he⟩, ⟨Nat.le_trans h0 (Nat.le_trans hb.size hk.size), _, hd, fun j e => ?_⟩, (hb.mono h0).trans (hk.below hS (Nat.le_trans h0 hb.size))⟩
  rcases e with e | e
  · exact hS j e
  · exact Nat.le_trans h0 (Nat.le_trans hb.size e.1)
theorem newX (w : World) (n : Nat) (h1 : 1 ≤ n) (h2 : n ≤ 65536) : Calls Try.prog 10 #[.int .i64 n] w fun e w' => ∃ b, e = .returned (.tuple #[.pointer (some ⟨b, 0, none⟩), .int .i64 0]) ∧ DsL w.heap.size w' b (St.fresh n) ∧ Below w.heap.size w w' :=
  (new_any w n h1 h2).mono fun _ _ ⟨b, he, hd, hb⟩ => ⟨b, he, ⟨hb.size, _, hd.1, fun _ e => e.1⟩, hb⟩
theorem DsL.less {M M' : Nat} {w : World} {b : Nat} {s : St} (h : DsL M w b s) (hl : M' ≤ M) : DsL M' w b s := by
  obtain ⟨h0, S, h1, h2⟩ := h
  exact ⟨Nat.le_trans hl h0, S, h1, fun k e => Nat.le_trans hl (h2 k e)⟩
theorem roomN' {L : Nat → Prop} {w : World} {g b r : Nat} {t : LSt} (h : Lg L w g b t) (hr : t.to - t.next = r) : Calls Try.prog 17 #[.pointer (some ⟨g, 0, none⟩)] w fun e w' => e = .returned (.int .i64 r) ∧ Below w.heap.size w w' := by
  subst hr
  exact room_any h
theorem fresh_lenN (n : Nat) : (St.fresh n).kept.length = n := by simp [St.fresh]
theorem fresh_wm (n : Nat) : Wm (St.fresh n) 0 n := ⟨rfl, Int.le_refl _, fresh_lenN n, Nat.le_refl _⟩
set_option maxRecDepth 100000 in
set_option maxHeartbeats 16000000 in
theorem reads_early (w : World) (A : Option Addr) (c : Nat) (l : List Ly) (ez fz tz : Int) (r : Rd w w.heap.size 5 A l.length c (l.flatMap lyCells)) (hbad : 30 < l.length ∨ l.length = 0) :
    Calls Try.prog 4 #[.slice A l.length c, .int .u8 ez, .int .u8 fz, .int .u8 tz] w fun en w' => en = .returned (.bool true) ∧ Below w.heap.size w w' := by
  have Hb := Lib.hid (Below.refl w.heap.size w)
  have hB : w.heap.size ≤ w.heap.size := Nat.le_refl _
  have hcm : l.length ≤ 9223372036854775807 := by have := r.cap; have := r.capm; simp only [maxLen] at this; omega
  rcases hbad with h | h
  all_goals (
    go_enter Try.func4, Try.ntmps4
    go_wp2_with (first
      | ((with_reducible refine (awake_any _).mono ?_); rintro en w1 ⟨rfl, hb⟩; obtain ⟨Hb, hB⟩ := chain Hb hB hb; clear hb))
    go_ret
    exact ⟨rfl, Hb.out⟩)
set_option maxRecDepth 100000 in
set_option maxHeartbeats 16000000 in
theorem reads_main (w : World) (A : Option Addr) (c : Nat) (l : List Ly) (ee : Nat) (hee : ee ≤ 255) (fz tz : Int) (hfz : 0 ≤ fz ∧ fz ≤ 255) (htz : 0 ≤ tz ∧ tz ≤ 255) (r : Rd w w.heap.size 5 A l.length c (l.flatMap lyCells)) (hok : ∀ a ∈ l, LyOk w a) (h30 : l.length ≤ 30) (h0 : 0 < l.length) :
    Calls Try.prog 4 #[.slice A l.length c, .int .u8 ee, .int .u8 fz, .int .u8 tz] w fun en w' => en = .returned (.bool true) ∧ Below w.heap.size w w' := by
  have Hb := Lib.hid (Below.refl w.heap.size w)
  have hB : w.heap.size ≤ w.heap.size := Nat.le_refl _
  have kN := fun W => newX W l.length (by omega) (by omega)
  have Hok := Lib.hid hok
  have hl0 : ((l.length : Int) == 0) = false := beq_eq_false_iff_ne.2 (by omega)
  clear hok
  go_enter Try.func4, Try.ntmps4
  go_wp2_with (first
    | ((with_reducible refine (awake_any _).mono ?_); rintro en w1 ⟨rfl, hb⟩; obtain ⟨Hb, hB⟩ := chain Hb hB hb; clear hb)
    | ((with_reducible refine (kN _).mono ?_); rintro en w2 ⟨b, rfl, d2, hb⟩; replace d2 := d2.less hB; obtain ⟨Hb, hB⟩ := chain Hb hB hb; clear hb))
  go_loopw [12] (fun vi wr => ∃ (k : Nat) (s : St), vi = .int .i64 k ∧ k ≤ l.length ∧ DsL w.heap.size wr b s ∧ Wm s k l.length ∧ Below w.heap.size w wr) (fun vi _ => l.length - (intOf vi).toNat)
  case atStart => exact ⟨0, _, rfl, Nat.zero_le _, d2, fresh_wm _, Hb.out⟩
  case round =>
    clear d2 Hb hB kN
    obtain ⟨k, s, rfl, hk, hD, hm, hb⟩ := hrel
    have Hb := Lib.hid hb
    have hB := hb.size
    have Hm := Lib.hid hm
    clear hb hm
    by_cases hlt : k < l.length
    · have hlz : (k : Int) < (l.length : Int) := by omega
      obtain ⟨a, ha⟩ : ∃ a, l[k]? = some a := ⟨l[k], List.getElem?_eq_getElem hlt⟩
      obtain ⟨q, o, rfl, hq, c0, c1, c2, c3, c4⟩ := lay_cells r ha
      have hao := Hok.out a (List.mem_of_getElem? ha)
      have kc : ∀ W, Below w.heap.size w W → ∀ i v, w.cell? ⟨q, i, none⟩ = some v → W.cell? ⟨q, i, none⟩ = some v := fun W h i v hv => (h.cell (p := ⟨q, i, none⟩) hq).trans hv
      obtain ⟨ae, hae⟩ : ∃ ae : Nat, a.ep = (ae : Int) := ⟨a.ep.toNat, by have := hao.ep; omega⟩
      obtain ⟨an, han⟩ : ∃ an : Nat, a.num = (an : Int) := ⟨a.num.toNat, by have := hao.num; omega⟩
      obtain ⟨az, haz⟩ : ∃ az : Nat, a.sz = (az : Int) := ⟨a.sz.toNat, by have := hao.sz; omega⟩
      have be := hao.ep
      have bn := hao.num
      have bz := hao.sz
      have bk := hao.kind
      rw [hae] at c1 be
      rw [han] at c2 bn
      rw [haz] at c3 bz
      have v4 := (hao.b.below Hb.out).conv (P := Try.prog) 36 9 5 Try.underlying36 Try.underlying5 Try.underlying9
      have d4 := kc _ Hb.out _ _ c4
      have d0 := kc _ Hb.out _ _ c0
      have hcv := conv_to
      have kW := fun T hT (W : World) (h : DsL w.heap.size W b s) => writeX h Hm.out (by omega) T hT (k : Int)
      have kH := fun W => refHead_any W ae an az (by omega) (by omega) (by omega)
      have hhl : (headS ae an az).length = 64 := by have := headB_le (e := ae) (k := an) (n := az) (by omega) (by omega) (by omega); simp [headS, pad]; omega
      have hMb := hao.b.cap
      have hMb2 := hao.b.capm
      have hMl : a.b.length ≤ 9223372036854775807 := by simp only [maxLen] at hMb2; omega
      by_cases h60 : a.b.length ≤ 60
      · obtain ⟨km, hkm⟩ : ∃ km : Int, a.kind % 3 = km := ⟨_, rfl⟩
        have hkm3 : km = 0 ∨ km = 1 ∨ km = 2 := by omega
        rcases hkm3 with rfl | rfl | rfl
        · have d1 : wr.drew.cell? ⟨q, o + k * 5 + 1, none⟩ = some (.int .u8 ae) := kc _ Hb.out _ _ c1
          have d2 : wr.drew.cell? ⟨q, o + k * 5 + 2, none⟩ = some (.int .u8 an) := kc _ Hb.out _ _ c2
          have d3 : wr.drew.cell? ⟨q, o + k * 5 + 3, none⟩ = some (.int .u16 az) := kc _ Hb.out _ _ c3
          have hTl : (headS ae an az).length ≤ 64 := Nat.le_of_eq hhl
          generalize headS ae an az = T at kH hTl
          clear hhl
          go_wp2
          go_still_tail 18, (by kernel_rfl)
          change wpList _ _ _ _ _ wr.drew
          go_wp2_with (first
            | ((with_reducible refine (kH _).mono ?_); rintro en w5 ⟨rfl, hb⟩; have hb' : Below wr.heap.size wr w5 := ⟨hb.os, hb.tape, hb.output, hb.size, hb.block⟩; have D5 := hD.below hb'; obtain ⟨Hb, hB⟩ := chain Hb hB hb'; clear hb hb' hD)
            | ((with_reducible refine (kW T (by omega) _ D5).mono ?_); rintro en w6 ⟨⟨v6, rfl⟩, D6, hb⟩; obtain ⟨Hb, hB⟩ := chainL Hb (Nat.le_refl _) hB hb; clear hb D5))
          go_roundw
          case rel => exact ⟨k + 1, _, by simp, by omega, D6, Hm.out.write _ _, Hb.out⟩
          case measure => simp [intOf]; omega
        · go_wp2_with (first
            | ((with_reducible refine (kW a.b (by omega) _ hD).mono ?_); rintro en w6 ⟨⟨v6, rfl⟩, D6, hb⟩; obtain ⟨Hb, hB⟩ := chainL Hb (Nat.le_refl _) hB hb; clear hb hD))
          go_roundw
          case rel => exact ⟨k + 1, _, by simp, by omega, D6, Hm.out.write _ _, Hb.out⟩
          case measure => simp [intOf]; omega
        · obtain ⟨T, hT⟩ : ∃ T, 0 :: a.b = T := ⟨_, rfl⟩
          have hTl : T.length ≤ 64 := by rw [← hT]; simp; omega
          have hcat : (⟨#[0]⟩ : ByteArray) ++ strOf a.b = strOf T := by rw [strOf0, strOf_app, ← hT]; rfl
          have hsb : (strOf a.b).size = a.b.length := strOf_size _
          clear hT
          go_wp2_with (first
            | ((with_reducible refine (kW T (by omega) _ hD).mono ?_); rintro en w6 ⟨⟨v6, rfl⟩, D6, hb⟩; obtain ⟨Hb, hB⟩ := chainL Hb (Nat.le_refl _) hB hb; clear hb hD))
          go_roundw
          case rel => exact ⟨k + 1, _, by simp, by omega, D6, Hm.out.write _ _, Hb.out⟩
          case measure => simp [intOf]; omega
      · go_wp2
        go_ret
        exact ⟨rfl, Hb.out⟩
    · obtain rfl : k = l.length := by omega
      have hlz : decide (l.length < l.length) = false := by simp
      obtain ⟨_, S, hD, hS⟩ := hD
      have hdead := Hm.out.dead
      have hnl : s.now.length = l.length := by rw [St.now, puts_length]; exact Hm.out.len
      have h64 := hD.ok.nowSec
      obtain ⟨N1, hN1⟩ : ∃ N1 : Nat, (l.length : Int) + 1 = (N1 : Int) := ⟨l.length + 1, by omega⟩
      have hN1p : 0 < (N1 : Int) := by omega
      have hm1 := Int.emod_nonneg fz (b := (N1 : Int)) (by omega)
      have hm2 := Int.emod_lt_of_pos fz hN1p
      obtain ⟨p, hp⟩ : ∃ p : Nat, fz % (N1 : Int) = (p : Int) := ⟨(fz % (N1 : Int)).toNat, by omega⟩
      have hpl : p ≤ l.length := by omega
      obtain ⟨d, hd⟩ : ∃ d : Nat, (l.length : Int) - (p : Int) = (d : Int) := ⟨l.length - p, by omega⟩
      obtain ⟨d1, hd1⟩ : ∃ d1 : Nat, (d : Int) + 1 = (d1 : Int) := ⟨d + 1, by omega⟩
      have hd1p : 0 < (d1 : Int) := by omega
      have hm3 := Int.emod_nonneg tz (b := (d1 : Int)) (by omega)
      have hm4 := Int.emod_lt_of_pos tz hd1p
      obtain ⟨q, hq⟩ : ∃ q : Nat, tz % (d1 : Int) = (q : Int) := ⟨(tz % (d1 : Int)).toNat, by omega⟩
      obtain ⟨to, hto⟩ : ∃ to : Nat, (p : Int) + (q : Int) = (to : Int) := ⟨p + q, by omega⟩
      have hpt : p ≤ to := by omega
      have htN : to ≤ l.length := by omega
      have htm1 : Int.tmod fz (N1 : Int) = (p : Int) := by rw [Int.tmod_eq_emod_of_nonneg hfz.1]; exact hp
      have htm2 : Int.tmod tz (d1 : Int) = (q : Int) := by rw [Int.tmod_eq_emod_of_nonneg htz.1]; exact hq
      have kO := jopen_any hD hdead p to ee hpt (by rw [Hm.out.len]; exact htN) (by omega)
      replace hnl := Lib.hid hnl
      replace h64 := Lib.hid h64
      replace hdead := Lib.hid hdead
      clear hm1 hm2 hm3 hm4
      go_wp2_with (first
        | ((with_reducible refine kO.mono ?_); rintro en w7 ⟨g, acc, pos, rfl, hr, hL, hb⟩; have D7 := hD.below hb; obtain ⟨Hb, hB⟩ := chain Hb hB hb; clear hb hD kO; replace hr := Lib.hid hr)
        | ((with_reducible refine (sectors_any D7 hdead.out).mono ?_); rintro en w8 ⟨vn, rfl, on, hb⟩; have L8 := hL.below hb; rw [hnl.out] at on; obtain ⟨A8, c8, rfl, d8⟩ := Rd.own on; obtain ⟨Hb, hB⟩ := chain Hb hB hb; clear hb hL D7 on)
        | ((with_reducible refine (refRecords_any _ A8 c8 l.length s.now p to ee d8 h64.out (by omega) hpt htN (by omega)).mono ?_); rintro en w9 ⟨A9, c9, acc9, pos9, rfl, d9, hr9, hpos9, hb⟩; obtain ⟨e1, e2⟩ := hr.out.one hr9; replace e1 := e1.symm; replace e2 := e2.symm; subst e1; subst e2; have L9 := L8.below hb; obtain ⟨Hb, hB⟩ := chain Hb hB hb; obtain ⟨rm, hrm⟩ : ∃ rm : Nat, (to : Int) - (pos : Int) = (rm : Int) := ⟨to - pos, by omega⟩; clear hb L8 d8 hr9)
        | ((with_reducible refine (rec_N L9 rfl rfl).mono ?_); rintro en w10 ⟨A10, c10, rfl, rr10, hb⟩; have L10 := L9.below hb; have d10 := (d9.below hb).more hb.size; obtain ⟨Hb, hB⟩ := chain Hb hB hb; clear hb L9 d9)
        | ((with_reducible refine (same_N rfl rfl (sameB_self acc) rr10 d10).mono ?_); rintro en w11 ⟨rfl, hb⟩; have L11 := L10.below hb; obtain ⟨Hb, hB⟩ := chain Hb hB hb; clear hb L10 d10 rr10)
        | ((with_reducible refine (roomN' L11 (r := rm) (by show to - pos = rm; omega)).mono ?_); rintro en w12 ⟨rfl, hb⟩; obtain ⟨Hb, hB⟩ := chain Hb hB hb; clear hb L11))
      go_ret
      exact ⟨rfl, Hb.out⟩
theorem journalReads_walk (A0 : Option Addr) (c0 : Nat) (l0 : List Ly) (x1 : Int) (x2 : Int) (x3 : Int) (w : World) (r0 : Rd w w.heap.size 5 A0 l0.length c0 (l0.flatMap lyCells)) (f0 : ∀ a ∈ l0, LyOk w a) (f1 : (Lit.int .u8 x1).wf = true) (f2 : (Lit.int .u8 x2).wf = true) (f3 : (Lit.int .u8 x3).wf = true) :
    Calls Try.prog 4 #[.slice A0 l0.length c0, .int .u8 x1, .int .u8 x2, .int .u8 x3] w fun e w' => e = .returned (.bool true) ∧ Below w.heap.size w w' := by
  have h1 := wf_u8 f1
  obtain ⟨ee, rfl⟩ : ∃ ee : Nat, x1 = (ee : Int) := ⟨x1.toNat, by omega⟩
  by_cases hbad : 30 < l0.length ∨ l0.length = 0
  · exact reads_early w A0 c0 l0 ee x2 x3 r0 hbad
  · exact reads_main w A0 c0 l0 ee (by omega) x2 x3 (wf_u8 f2) (wf_u8 f3) r0 f0 (by omega) (by omega)
end Go.Proofs.Ytgppaompcnllbaa
