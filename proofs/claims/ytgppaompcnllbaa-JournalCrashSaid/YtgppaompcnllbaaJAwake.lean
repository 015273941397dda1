/- The document's example of layer 4 holds: awake answers true. -/
import Derived.Test.YtgppaompcnllbaaLive
import Derived.Lib.SlBytesConst
namespace Go.Proofs.Ytgppaompcnllbaa
open Go.RowKit

theorem chain {B : Nat} {w w1 w2 : World} (h : Hid (Below B w w1)) (hB : B ≤ w1.heap.size) (k : Below w1.heap.size w1 w2) : Hid (Below B w w2) ∧ B ≤ w2.heap.size :=
  ⟨Lib.hid (h.out.trans (k.mono hB)), Nat.le_trans hB k.size⟩
theorem chainL {B lo : Nat} {w w1 w2 : World} (h : Hid (Below B w w1)) (hB : B ≤ lo) (hB1 : B ≤ w1.heap.size) (k : Below lo w1 w2) : Hid (Below B w w2) ∧ B ≤ w2.heap.size :=
  ⟨Lib.hid (h.out.trans (k.mono hB)), Nat.le_trans hB1 k.size⟩
theorem Rd.litF (w : World) (cs : Array Value) (t : TypeId) (fr : Nat × Nat) (n size : Nat) (xs : List Value) (hx : cs.toList = xs) (h : cs.size = n * size) (hn : n ≤ maxLen) : Rd (w.alloc (.cells cs t fr)) (w.alloc (.cells cs t fr)).heap.size size (some ⟨w.heap.size, 0, none⟩) n n xs := by
  subst hx
  refine ⟨by rw [Array.length_toList]; exact h, Nat.le_refl _, hn, fun e => (by cases e), fun _ => ⟨_, _, rfl, by simp, fun j u hj => ?_⟩⟩
  rw [cell_of_row _ _ _ cs t fr (heap_alloc_new w _)]
  simpa using hj
/-- The same, all of it from lo on. -/
def LiveL (lo : Nat) (w : World) (g b p : Nat) (K : List Sec) (t : LSt) : Prop := lo ≤ w.heap.size ∧ ∃ T, Live T w g b p K t ∧ ∀ k, T k → lo ≤ k
def RestL (lo : Nat) (w : World) (b : Nat) (K : List Sec) : Prop := lo ≤ w.heap.size ∧ ∃ T, Rest T w b K ∧ ∀ k, T k → lo ≤ k
section
variable {lo : Nat} {w w' : World} {g b p : Nat} {K : List Sec} {t : LSt}
theorem LiveL.below (h : LiveL lo w g b p K t) (hb : Below w.heap.size w w') : LiveL lo w' g b p K t := by obtain ⟨h0, T, h1, h2⟩ := h; exact ⟨Nat.le_trans h0 hb.size, T, h1.below hb, h2⟩
theorem RestL.below (h : RestL lo w b K) (hb : Below w.heap.size w w') : RestL lo w' b K := by obtain ⟨h0, T, h1, h2⟩ := h; exact ⟨Nat.le_trans h0 hb.size, T, h1.below hb, h2⟩
theorem LiveL.rest (h : LiveL lo w g b p K t) : RestL lo w b K := by obtain ⟨h0, T, h1, h2⟩ := h; exact ⟨h0, T, h1.rest, h2⟩
theorem LiveL.good (h : LiveL lo w g b p K t) : Good K t.epoch p t.recs t.next t.to := by obtain ⟨h0, T, h1, h2⟩ := h; exact h1.good
theorem LiveL.lg (h : LiveL lo w g b p K t) : ∃ T, Lg T w g b t := by obtain ⟨h0, T, h1, h2⟩ := h; exact ⟨T, h1.lg⟩
theorem LiveL.tok (h : LiveL lo w g b p K t) : t.Ok := by obtain ⟨h0, T, h1, h2⟩ := h; exact h1.tok
theorem LiveL.len (h : LiveL lo w g b p K t) : t.to ≤ K.length := by obtain ⟨h0, T, h1, h2⟩ := h; exact h1.len
theorem restL_new (w : World) (n : Nat) (h1 : 1 ≤ n) (h2 : n ≤ 65536) : Calls Try.prog 10 #[.int .i64 n] w fun e w' => ∃ b, e = .returned (.tuple #[.pointer (some ⟨b, 0, none⟩), .int .i64 0]) ∧ RestL w.heap.size w' b (St.fresh n).kept ∧ Below w.heap.size w w' :=
  (rest_new w n h1 h2).mono fun _ _ ⟨b, he, hd, hb⟩ => ⟨b, he, ⟨hb.size, _, hd, fun _ e => e.1⟩, hb⟩
theorem openL (h : RestL lo w b K) {p to e : Nat} {acc : List (List UInt8)} {pos : Nat} (hg : Good K e p acc pos to) (h1 : p ≤ to) (h2 : to ≤ K.length) (h3 : e < 2 ^ 64) :
    Calls Try.prog 11 #[.pointer (some ⟨b, 0, none⟩), .int .i64 p, .int .i64 to, .int .u64 e] w fun en w' => ∃ g, en = .returned (.tuple #[.pointer (some ⟨g, 0, none⟩), .int .i64 0]) ∧ LiveL lo w' g b p K ⟨pos, to, e, acc⟩ ∧ RestL lo w' b K ∧ Lg (In w.heap.size w'.heap.size) w' g b ⟨pos, to, e, acc⟩ ∧ Below w.heap.size w w' := by
  obtain ⟨h0, T, hR, hT⟩ := h
  refine (open_live hR hg h1 h2 h3).mono fun en w' ⟨g, he, hL, hg, hb⟩ => ⟨g, he, ⟨Nat.le_trans h0 hb.size, _, hL, fun k e => ?_⟩, RestL.below ⟨h0, T, hR, hT⟩ hb, hg, hb⟩
  rcases e with e | e
  · exact hT k e
  · exact Nat.le_trans h0 e.1
/-- A slice that the log and its disk don't touch. -/
theorem appendL_at {T : Nat → Prop} (h : Live T w g b p K t) (hT : ∀ k, T k → lo ≤ k) (h0 : lo ≤ w.heap.size) {A : Option Addr} {c : Nat} {l : List UInt8} (hr : Rd w w.heap.size 1 A l.length c (bv l)) (hA : 0 < l.length → ∀ q o, A = some ⟨q, o, none⟩ → ¬ T q) (hl : l.length ≤ 4096) (hf : t.next + szN l.length ≤ t.to) :
    Calls Try.prog 14 #[.pointer (some ⟨g, 0, none⟩), .slice A l.length c] w fun e w' => e = .returned (.int .i64 0) ∧ LiveL lo w' g b p (laidK K t l) (t.add l) ∧ Below lo w w' :=
  (live_append h hr hA hl hf).mono fun e w' ⟨he, hL, hk⟩ => ⟨he, ⟨Nat.le_trans h0 hk.size, _, hL, fun k e => by
    rcases e with e | e
    · exact hT k e
    · exact Nat.le_trans h0 e.1⟩, hk.below hT h0⟩
/-- A slice that was there ahead of the log and its disk. -/
theorem appendL (h : LiveL lo w g b p K t) {w0 : World} {A : Option Addr} {c : Nat} {l : List UInt8} (hr : Rd w0 lo 1 A l.length c (bv l)) (hb : Below lo w0 w) (hl : l.length ≤ 4096) (hf : t.next + szN l.length ≤ t.to) :
    Calls Try.prog 14 #[.pointer (some ⟨g, 0, none⟩), .slice A l.length c] w fun e w' => e = .returned (.int .i64 0) ∧ LiveL lo w' g b p (laidK K t l) (t.add l) ∧ Below lo w w' := by
  obtain ⟨h0, T, hL, hT⟩ := h
  refine appendL_at hL hT h0 ((hr.below hb).more h0) (fun hn q o e e2 => ?_) hl hf
  obtain ⟨q', o', e', hq, _⟩ := hr.at_ hn
  rw [e] at e'
  cases e'
  have := hT q e2
  omega
theorem appendL0 (h : LiveL lo w g b p K t) (hf : t.next + 1 ≤ t.to) :
    Calls Try.prog 14 #[.pointer (some ⟨g, 0, none⟩), .slice none 0 0] w fun e w' => e = .returned (.int .i64 0) ∧ LiveL lo w' g b p (laidK K t []) (t.add []) ∧ Below lo w w' :=
  appendL (w0 := w) h (A := none) (c := 0) (l := []) (Rd.none_ _ _ _) (Below.refl _ _) (by simp) hf
end

/-! the example -/
def tA : LSt := ⟨2, 9, 5, []⟩
def tB : LSt := tA.add [97, 98]
def tC : LSt := tB.add []
def kA : List Sec := (St.fresh 9).kept
def kB : List Sec := laidK kA tA [97, 98]
def kC : List Sec := laidK kB tB []
theorem kC_len : kC.length = 9 := by simp [kC, kB, laidK_len, kA, St.fresh]
theorem kB_len : kB.length = 9 := by simp [kB, laidK_len, kA, St.fresh]
theorem kA_len : kA.length = 9 := by simp [kA, St.fresh]
theorem tA_ok : tA.Ok := ⟨by decide, by decide, by decide, by decide, fun _ h => (by cases h)⟩
theorem tB_ok : tB.Ok := tA_ok.add (by decide) (by decide)
theorem goodA : Good kA 5 2 [] 2 9 := Good.new (clean_fresh 9 5 2 9) (by omega)
theorem goodN : Good kC 6 2 [] 2 9 :=
  Good.new (clean_add (clean_add (clean_fresh 9 6 2 9) tA_ok (by decide) (by decide) (by have := kA_len; show tA.next + szN 2 ≤ kA.length; rw [this]; decide)) tB_ok (by decide) (by decide) (by rw [kB_len]; decide)) (by omega)
section
variable {lo : Nat} {w w' : World} {g b : Nat}
theorem x_open (h : RestL lo w b kA) : Calls Try.prog 11 #[.pointer (some ⟨b, 0, none⟩), .int .i64 2, .int .i64 9, .int .u64 5] w fun en w' => ∃ g, en = .returned (.tuple #[.pointer (some ⟨g, 0, none⟩), .int .i64 0]) ∧ LiveL lo w' g b 2 kA tA ∧ Below w.heap.size w w' :=
  (openL h goodA (by omega) (by rw [kA_len]; omega) (by omega)).mono fun _ _ ⟨g, he, hl, _, _, hb⟩ => ⟨g, he, hl, hb⟩
theorem x_ab (h : LiveL lo w g b 2 kA tA) : Calls Try.prog 14 #[.pointer (some ⟨g, 0, none⟩), .slice (some ⟨w.heap.size, 0, none⟩) 2 2] (w.alloc (.cells #[.int .u8 97, .int .u8 98] 5 (2, 3))) fun e w' => e = .returned (.int .i64 0) ∧ LiveL lo w' g b 2 kB tB ∧ Below lo w w' := by
  obtain ⟨h0, T, hL, hT⟩ := h
  have hb := (Below.refl w.heap.size w).alloc (Nat.le_refl _) (.cells #[.int .u8 97, .int .u8 98] 5 (2, 3))
  refine (appendL_at (l := [97, 98]) (hL.below hb) hT (by simp; omega) (Rd.litF w #[.int .u8 97, .int .u8 98] 5 (2, 3) 2 1 (bv [97, 98]) rfl rfl (by simp [maxLen])) (fun _ q o e e2 => ?_) (by decide) (by decide)).mono ?_
  · cases e
    have := hL.size _ e2
    omega
  · rintro e w' ⟨he, hl, hb2⟩
    exact ⟨he, hl, ((Below.refl lo w).alloc h0 _).trans hb2⟩
theorem x_nil (h : LiveL lo w g b 2 kB tB) : Calls Try.prog 14 #[.pointer (some ⟨g, 0, none⟩), .slice none 0 0] w fun e w' => e = .returned (.int .i64 0) ∧ LiveL lo w' g b 2 kC tC ∧ Below lo w w' := appendL0 h (by decide)
theorem x_m (h : LiveL lo w g b 2 kC tC) : Calls Try.prog 11 #[.pointer (some ⟨b, 0, none⟩), .int .i64 2, .int .i64 9, .int .u64 5] w fun en w' => ∃ g, en = .returned (.tuple #[.pointer (some ⟨g, 0, none⟩), .int .i64 0]) ∧ RestL lo w' b kC ∧ Lg (In w.heap.size w'.heap.size) w' g b tC ∧ Below w.heap.size w w' :=
  (openL h.rest (e := 5) (p := 2) (to := 9) (pos := 5) (acc := [[97, 98], []]) h.good (by omega) (by rw [kC_len]; omega) (by omega)).mono fun _ _ ⟨g, he, _, hr, hl, hb⟩ => ⟨g, he, hr, hl, hb⟩
theorem x_n (h : RestL lo w b kC) : Calls Try.prog 11 #[.pointer (some ⟨b, 0, none⟩), .int .i64 2, .int .i64 9, .int .u64 6] w fun en w' => ∃ g, en = .returned (.tuple #[.pointer (some ⟨g, 0, none⟩), .int .i64 0]) ∧ Lg (In w.heap.size w'.heap.size) w' g b ⟨2, 9, 6, []⟩ ∧ Below w.heap.size w w' :=
  (openL h goodN (by omega) (by rw [kC_len]; omega) (by omega)).mono fun _ _ ⟨g, he, _, _, hl, hb⟩ => ⟨g, he, hl, hb⟩
theorem x_rec {L : Nat → Prop} (h : Lg L w g b tC) : Calls Try.prog 16 #[.pointer (some ⟨g, 0, none⟩)] w fun e w' => ∃ q o c qa ca, e = .returned (.slice (some ⟨q, o, none⟩) 2 c) ∧ 2 ≤ c ∧ w'.cell? ⟨q, o, none⟩ = some (.slice qa 2 ca) ∧ (convert 36 9 (.slice qa 2 ca)).run Try.prog w' = .ok (.string (strOf [97, 98])) w' ∧ Below w.heap.size w w' := by
  refine (records_any h).mono ?_
  rintro e w' ⟨A, c, rfl, hr, hb⟩
  have hcap : 2 ≤ c := by obtain ⟨_, _, h2, _⟩ := hr; exact h2.cap
  obtain ⟨q, o, r, rfl, _, hc, hrb, hrok⟩ := hr.at_ (k := 0) (x := [97, 98]) rfl
  refine ⟨q, o, c, r.A, r.c, rfl, hcap, by simpa using hc, ?_, hb⟩
  have h2 : Rd w' w'.heap.size 1 r.A 2 r.c (bv [97, 98]) := by
    have h3 := hrok
    unfold RwOk at h3
    rw [hrb] at h3
    exact h3
  exact h2.conv 36 9 5 Try.underlying36 Try.underlying5 Try.underlying9
theorem x_room {L : Nat → Prop} (h : Lg L w g b tC) : Calls Try.prog 17 #[.pointer (some ⟨g, 0, none⟩)] w fun e w' => e = .returned (.int .i64 4) ∧ Below w.heap.size w w' := room_any h
theorem x_rec0 {L : Nat → Prop} (h : Lg L w g b ⟨2, 9, 6, []⟩) : Calls Try.prog 16 #[.pointer (some ⟨g, 0, none⟩)] w fun e w' => ∃ A c, e = .returned (.slice A 0 c) ∧ Below w.heap.size w w' :=
  (records_any h).mono fun _ _ ⟨A, c, he, _, hb⟩ => ⟨A, c, he, hb⟩
theorem x_s0 (w : World) : Calls Try.prog 18 #[.int .i64 0] w fun e w' => e = .returned (.int .i64 1) ∧ w = w' := (size_any w 0 (by omega)).mono fun _ _ ⟨h1, h2⟩ => ⟨h1, h2.symm⟩
theorem x_s63 (w : World) : Calls Try.prog 18 #[.int .i64 63] w fun e w' => e = .returned (.int .i64 2) ∧ w = w' := (size_any w 63 (by omega)).mono fun _ _ ⟨h1, h2⟩ => ⟨h1, h2.symm⟩
theorem x_s64 (w : World) : Calls Try.prog 18 #[.int .i64 64] w fun e w' => e = .returned (.int .i64 3) ∧ w = w' := (size_any w 64 (by omega)).mono fun _ _ ⟨h1, h2⟩ => ⟨h1, h2.symm⟩
end
theorem x_new (w : World) : Calls Try.prog 10 #[.int .i64 9] w fun e w' => ∃ b, e = .returned (.tuple #[.pointer (some ⟨b, 0, none⟩), .int .i64 0]) ∧ RestL w.heap.size w' b kA ∧ Below w.heap.size w w' := restL_new w 9 (by omega) (by omega)

set_option maxRecDepth 100000 in
set_option maxHeartbeats 4000000 in
theorem awake_any (w : World) : Calls Try.prog 8 #[] w fun e w' => e = .returned (.bool true) ∧ Below w.heap.size w w' := by
  have Hb := Lib.hid (Below.refl w.heap.size w)
  have hB : w.heap.size ≤ w.heap.size := Nat.le_refl _
  have hcv := fun (w : World) (C : Array Value) (n c : Nat) => Lib.run_convert_bytes_const (P := Try.prog) w 36 5 C n c Try.underlying36 Try.underlying5
  have hab : (strOf [97, 98]).toList = [97, 98] := strOf_toList _
  go_enter Try.func8, Try.ntmps8
  go_wp2_with (first
    | ((with_reducible refine (x_new _).mono ?_); rintro e w1 ⟨b, rfl, d0, hb⟩; obtain ⟨Hb, hB⟩ := chain Hb hB hb; clear hb)
    | ((with_reducible refine (x_open d0).mono ?_); rintro e w2 ⟨g, rfl, l0, hb⟩; obtain ⟨Hb, hB⟩ := chain Hb hB hb; clear hb d0)
    | ((with_reducible refine (x_ab l0).mono ?_); rintro e w3 ⟨rfl, l1, hb⟩; obtain ⟨Hb, hB⟩ := chainL Hb (Nat.le_refl _) hB hb; clear hb l0)
    | ((with_reducible refine (x_nil l1).mono ?_); rintro e w4 ⟨rfl, l2, hb⟩; obtain ⟨Hb, hB⟩ := chainL Hb (Nat.le_refl _) hB hb; clear hb l1)
    | ((with_reducible refine (x_m l2).mono ?_); rintro e w5 ⟨m, rfl, r5, m5, hb⟩; obtain ⟨Hb, hB⟩ := chain Hb hB hb; clear hb l2)
    | ((with_reducible refine (x_n r5).mono ?_); rintro e w6 ⟨n, rfl, n6, hb⟩; have m6 := m5.below hb; obtain ⟨Hb, hB⟩ := chain Hb hB hb; clear hb r5 m5)
    | ((with_reducible refine (x_rec m6).mono ?_); rintro e w7 ⟨q, o, c, qa, ca, rfl, hc2, cq, kcv, hb⟩; have m7 := m6.below hb; have n7 := n6.below hb; obtain ⟨Hb, hB⟩ := chain Hb hB hb; clear hb m6 n6)
    | ((with_reducible refine (x_s0 _).mono ?_); rintro e w8 ⟨rfl, rfl⟩)
    | ((with_reducible refine (x_s63 _).mono ?_); rintro e w8 ⟨rfl, rfl⟩)
    | ((with_reducible refine (x_s64 _).mono ?_); rintro e w8 ⟨rfl, rfl⟩)
    | ((with_reducible refine (x_room m7).mono ?_); rintro e w9 ⟨rfl, hb⟩; have n9 := n7.below hb; obtain ⟨Hb, hB⟩ := chain Hb hB hb; clear hb m7 n7)
    | ((with_reducible refine (x_rec0 n9).mono ?_); rintro e w10 ⟨A, cc, rfl, hb⟩; obtain ⟨Hb, hB⟩ := chain Hb hB hb; clear hb n9))
  go_ret
  exact ⟨rfl, Hb.out⟩
end Go.Proofs.Ytgppaompcnllbaa
