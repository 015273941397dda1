/- Layer 4: Append, called. Conditions: a record of at most 4096 bytes; fewer than 700,000 writes wait. -/
import Derived.Test.YtgppaompcnllbaaWParts
namespace Go.Proofs.Ytgppaompcnllbaa
open Go.RowKit

/-- What Append makes of the disk, and its error. -/
def apS (s : St) (t : LSt) (l : List UInt8) : St := if ptE s t l = 0 then hdS (ptS s t l) t l.length else ptS s t l
def apE (s : St) (t : LSt) (l : List UInt8) : Int := if ptE s t l = 0 then hdE (ptS s t l) t l.length else ptE s t l
/-- What it makes of the log. -/
def apT (s : St) (t : LSt) (l : List UInt8) : LSt := if apE s t l = 0 then t.add l else t
/-- A log and its disk, in memory: all that they have are blocks of T. -/
def Jr (T : Nat → Prop) (w : World) (g b : Nat) (s : St) (t : LSt) : Prop :=
  ∃ S L : Nat → Prop, Ds S w b s ∧ Lg L w g b t ∧ (∀ k, S k → ¬ L k) ∧ (∀ k, S k → T k) ∧ (∀ k, L k → T k) ∧ ∀ k, T k → k < w.heap.size
section
variable {T U : Nat → Prop} {w w' : World} {g b : Nat} {s : St} {t : LSt}
theorem Jr.size (h : Jr T w g b s t) : ∀ k, T k → k < w.heap.size := by obtain ⟨_, _, _, _, _, _, _, h⟩ := h; exact h
theorem Jr.tok (h : Jr T w g b s t) : t.Ok := by obtain ⟨_, _, _, h, _⟩ := h; exact h.ok
theorem Jr.sok (h : Jr T w g b s t) : s.Ok := by obtain ⟨_, _, h, _⟩ := h; exact h.ok
theorem Jr.lg (h : Jr T w g b s t) : Lg T w g b t := by obtain ⟨_, _, _, h, _, _, h1, h2⟩ := h; exact h.wide h1 h2
theorem Jr.ds (h : Jr T w g b s t) : Ds T w b s := by obtain ⟨_, _, h, _, _, h1, _, h2⟩ := h; exact h.wide h1 h2
theorem Jr.same (h : Jr T w g b s t) (hs : w.heap.size ≤ w'.heap.size) (hk : ∀ k, T k → w'.heap[k]? = w.heap[k]?) : Jr T w' g b s t := by
  obtain ⟨S, L, h1, h2, h3, h4, h5, h6⟩ := h
  exact ⟨S, L, h1.same hs fun k e => hk k (h4 k e), h2.same hs fun k e => hk k (h5 k e), h3, h4, h5, fun k e => Nat.lt_of_lt_of_le (h6 k e) hs⟩
theorem Jr.below (h : Jr T w g b s t) (hb : Below w.heap.size w w') : Jr T w' g b s t := h.same hb.size fun k e => hb.block k (h.size k e)
theorem Jr.keep (h : Jr T w g b s t) (hb : Ks U w w') (ha : ∀ k, T k → ¬ U k) : Jr T w' g b s t := h.same hb.size fun k hk => hb.block k (h.size k hk) (ha k hk)
theorem Jr.wide (h : Jr T w g b s t) (hT : ∀ k, T k → U k) (hU : ∀ k, U k → k < w.heap.size) : Jr U w g b s t := by
  obtain ⟨S, L, h1, h2, h3, h4, h5, h6⟩ := h
  exact ⟨S, L, h1, h2, h3, fun k e => hT k (h4 k e), fun k e => hT k (h5 k e), hU⟩
end

theorem flush_waits (s : St) : s.flush.waits.length ≤ s.waits.length := by
  unfold St.flush
  split
  · rw [St.count_waits]; exact Nat.le_refl _
  · simp [St.flushed]
theorem ptS_waits (s : St) (t : LSt) (l : List UInt8) : (ptS s t l).waits.length ≤ s.waits.length + l.length := by
  have h := wrF_waits s (wps t l (ptAll l.length))
  have h1 := flush_waits (ptW s t l).1
  have h2 := pn_le l.length
  rw [wps_len, ptAll_len] at h
  have h3 : (ptW s t l).1.waits.length ≤ s.waits.length + l.length := by unfold ptW; omega
  unfold ptS
  split <;> omega
/-- The log's blocks and the disk's behind a call that turned the disk alone. -/
theorem jr_disk {T S S2 L : Nat → Prop} {w w2 : World} {g b : Nat} {s : St} {t : LSt} (hD : Ds S2 w2 b s) (hL : Lg L w2 g b t) (hS2 : ∀ k, S2 k → Grow S w w2 k) (hSL : ∀ k, S k → ¬ L k) (hLw : ∀ k, L k → k < w.heap.size) (hST : ∀ k, S k → T k) (hLT : ∀ k, L k → T k) (hT : ∀ k, T k → k < w.heap.size) (hs : w.heap.size ≤ w2.heap.size) : Jr (Grow T w w2) w2 g b s t :=
  ⟨S2, L, hD, hL, fun k e e2 => by rcases hS2 k e with e | e; exact hSL k e e2; have := hLw k e2; omega, fun k e => by rcases hS2 k e with e | e; exact .inl (hST k e); exact .inr e, fun k e => .inl (hLT k e), fun k e => by rcases e with e | e; have := hT k e; omega; exact e.2⟩
/-- What is added behind a copy of what came in. -/
theorem add_copy {L : Nat → Prop} {w4 w5 : World} {g b : Nat} {t : LSt} (hL : Lg L w4 g b t) {A : Option Addr} {c : Nat} {l : List UInt8} (ho : w5.ownsRow w4.heap.size 5 1 (.slice A l.length c) l.length (bv l)) (hb : Below w4.heap.size w4 w5) (hl : l.length ≤ 4096) (hf : t.next + szN l.length ≤ t.to) :
    Calls Try.prog 28 #[.pointer (some ⟨g, 0, none⟩), .slice A l.length c] w5 fun e w' => (∃ v, e = .returned v) ∧ Lg (Grow L w4 w') w' g b (t.add l) ∧ Ks (Grow L w4 w5) w5 w' := by
  obtain ⟨rv, rows, h4⟩ := hL
  have hlw := h4.size
  have hs := hb.size
  have h5 : LgAt (Grow L w4 w5) w5 g b t rv rows := (h4.same hb.size fun k e => hb.block k (hlw k e)).wide (fun k e => .inl e) fun k e => by
    rcases e with e | e
    · have := hlw k e; omega
    · exact e.2
  obtain ⟨A', c', e', hr⟩ := Rd.own ho
  cases e'
  refine (add_any (x := ⟨A, c, l⟩) h5 hr (fun hn q o e => ?_) hl hf).mono ?_
  · have h1 := own_at ho q o e
    have hq : q < w5.heap.size := by obtain ⟨q', o', e', hq, _⟩ := hr.at_ hn; have e3 : A = some ⟨q, o, none⟩ := e; rw [e3] at e'; cases e'; exact hq
    exact ⟨.inr ⟨h1, hq⟩, fun e2 => by have := hlw g h4.hg; omega, fun e2 => by have := hlw q (h4.hr q e2); omega⟩
  · rintro e w' ⟨he, hl', hk⟩
    refine ⟨he, hl'.wide (fun k e => ?_) (fun k e => ?_), hk⟩
    · rcases e with (e | e) | e
      · exact .inl e
      · exact .inr ⟨e.1, by have := hk.size; omega⟩
      · exact .inr ⟨by omega, e.2⟩
    · rcases e with e | e
      · have := hlw k e; have := hk.size; omega
      · exact e.2
theorem append_nil (w : World) (A : Option Addr) (n c : Nat) : Calls Try.prog 14 #[.pointer none, .slice A n c] w fun e w' => e = .returned (.int .i64 1) ∧ w' = w := by
  go_enter Try.func14, Try.ntmps14
  go_wp2
  go_ret
  exact ⟨rfl, rfl⟩
set_option maxRecDepth 100000 in
set_option maxHeartbeats 1000000 in
theorem append_full {L : Nat → Prop} {w : World} {g b : Nat} {t : LSt} (hL : Lg L w g b t) (A : Option Addr) (n c : Nat) (hl : n ≤ 4096) (hf : t.to - t.next < szN n) :
    Calls Try.prog 14 #[.pointer (some ⟨g, 0, none⟩), .slice A n c] w fun e w' => e = .returned (.int .i64 21) ∧ Below w.heap.size w w' := by
  have ks := fun W => size_any W n (by omega)
  have kr := fun W (h : Lg L W g b t) => room_any h
  have hz : (n : Int) ≤ 4096 := by omega
  have hfz : ((t.to - t.next : Nat) : Int) < (szN n : Int) := by omega
  generalize t.to - t.next = rm at *
  generalize szN n = sz at *
  go_enter Try.func14, Try.ntmps14
  go_wp2_with (first
    | ((with_reducible refine (ks _).mono ?_); rintro e w1 ⟨rfl, rfl⟩)
    | ((with_reducible refine (kr _ hL).mono ?_); rintro e w2 ⟨rfl, hb2⟩))
  go_ret
  exact ⟨rfl, hb2⟩
set_option maxRecDepth 100000 in
set_option maxHeartbeats 2000000 in
theorem append_any {T : Nat → Prop} {w : World} {g b : Nat} {s : St} {t : LSt} (h : Jr T w g b s t) {A : Option Addr} {c : Nat} {l : List UInt8} (hr : Rd w w.heap.size 1 A l.length c (bv l)) (hA : 0 < l.length → ∀ q o, A = some ⟨q, o, none⟩ → ¬ T q) (hl : l.length ≤ 4096) (hf : t.next + szN l.length ≤ t.to) (hw : s.waits.length < 700000) :
    Calls Try.prog 14 #[.pointer (some ⟨g, 0, none⟩), .slice A l.length c] w fun e w' => e = .returned (.int .i64 (apE s t l)) ∧ Jr (Grow T w w') w' g b (apS s t l) (apT s t l) ∧ Ks T w w' := by
  obtain ⟨S, L, hD, hL, hSL, hST, hLT, hT⟩ := h
  have ks := fun W => size_any W l.length (by omega)
  have kr := fun W (h : Lg L W g b t) => room_any h
  have hok := hL.ok
  have hle := hok.le
  have hmo := hok.most
  have hz : (l.length : Int) ≤ 4096 := by omega
  have hfz : (szN l.length : Int) ≤ ((t.to - t.next : Nat) : Int) := by omega
  have Hok := Lib.hid hok
  have Hf := Lib.hid hf
  clear hok hle hmo hf
  generalize hrm : t.to - t.next = rm at *
  have hSw := hD.size
  have hLw := hL.size
  have hnA : ∀ {w1 w2 : World}, Below w.heap.size w w1 → Ks S w1 w2 → Rd w2 w2.heap.size 1 A l.length c (bv l) := fun {w1 w2} hb hk => by
    refine rd_same (hr) (Nat.le_trans hb.size hk.size) fun hn q o e => ?_
    have hq : q < w.heap.size := by obtain ⟨q', o', e', hq, _⟩ := hr.at_ hn; rw [e] at e'; cases e'; exact hq
    exact (hk.block q (Nat.lt_of_lt_of_le hq hb.size) fun e2 => hA hn q o e (hST q e2)).trans (hb.block q hq)
  go_enter Try.func14, Try.ntmps14
  have wr0 : ∀ E1 : Int, ptE s t l = E1 → ∀ W, Below w.heap.size w W → Calls Try.prog 32 #[.pointer (some ⟨g, 0, none⟩), .slice A l.length c] W fun e w' => e = .returned (.int .i64 E1) ∧ Ds (Grow S W w') w' b (ptS s t l) ∧ Ks S W w' := fun E1 e1 W hb => by
    have := wparts_any (hD.below hb) (hL.below hb) hSL (hnA hb (Ks.refl S W)) (fun hn q o e hs => hA hn q o e (hST q hs)) hl (by omega)
    rw [e1] at this
    exact this
  have hw1 : (ptS s t l).waits.length < 800000 := by have := ptS_waits s t l; omega
  have wr1 : ∀ E2 : Int, hdE (ptS s t l) t l.length = E2 → ∀ W W2, Below w.heap.size w W → Ds (Grow S W W2) W2 b (ptS s t l) → Ks S W W2 → Calls Try.prog 33 #[.pointer (some ⟨g, 0, none⟩), .int .i64 l.length] W2 fun e w' => e = .returned (.int .i64 E2) ∧ Ds (Grow (Grow S W W2) W2 w') w' b (hdS (ptS s t l) t l.length) ∧ Ks (Grow S W W2) W2 w' := fun E2 e2 W W2 hb hd hk => by
    have := whead_any hd ((hL.below hb).keep hk fun k e e3 => hSL k e3 e) (fun k e e3 => by rcases e with e | e; exact hSL k e e3; have := hLw k e3; have := hb.size; omega) l.length hl (by omega)
    rw [e2] at this
    exact this
  by_cases h1 : ptE s t l = 0
  · have hw1' := wr0 0 h1
    by_cases h2 : hdE (ptS s t l) t l.length = 0
    · have hw2' := wr1 0 h2
      have hE : apE s t l = 0 := by rw [apE, if_pos h1, h2]
      have hS : apS s t l = hdS (ptS s t l) t l.length := by rw [apS, if_pos h1]
      have hTt : apT s t l = t.add l := by rw [apT, if_pos hE]
      replace hE := Lib.hid hE
      replace hS := Lib.hid hS
      replace hTt := Lib.hid hTt
      clear h1 h2 wr0 wr1
      go_wp2_with (first
        | ((with_reducible refine (ks _).mono ?_); rintro e w ⟨rfl, rfl⟩)
        | ((with_reducible refine (kr _ hL).mono ?_); rintro e w2 ⟨rfl, hb2⟩; replace hb2 := Lib.hid hb2; have hk3 := hw1' _ hb2.out)
        | ((with_reducible refine hk3.mono ?_); rintro e w3 ⟨rfl, hd3, hks3⟩; have hk4 := hw2' _ _ hb2.out hd3 hks3)
        | ((with_reducible refine hk4.mono ?_); rintro e w4 ⟨rfl, hd4, hks4⟩; clear hk3 hk4; have hks := ks_two hks3 hks4; have hr4 := hnA hb2.out hks; have hL4 := (hL.below hb2.out).keep hks fun k e e3 => hSL k e3 e)
        | ((with_reducible refine (clone_any A l.length c l _ hr4 (by omega)).mono ?_); rintro e w5 ⟨v5, rfl, ho5, hb5⟩; obtain ⟨A5, c5, rfl, _⟩ := Rd.own ho5; have ha5 := add_copy hL4 ho5 hb5 hl Hf.out)
        | ((with_reducible refine ha5.mono ?_); rintro e w6 ⟨⟨_, rfl⟩, hl6, hk6⟩))
      go_ret
      rw [hE.out, hS.out, hTt.out]
      have s2 := hb2.out.size
      have s4 := hks.size
      have s3 := hks3.size
      have s43 := hks4.size
      have s5 := hb5.size
      have s6 := hk6.size
      have hSd : ∀ k, Grow (Grow S w2 w3) w3 w4 k → S k ∨ (w.heap.size ≤ k ∧ k < w4.heap.size) := fun k e => by
        rcases e with (e | e) | e
        · exact .inl e
        · exact .inr ⟨by omega, by omega⟩
        · exact .inr ⟨by omega, e.2⟩
      refine ⟨rfl, ⟨Grow (Grow S w2 w3) w3 w4, Grow L w4 w6, ?_, hl6, fun k e e2 => ?_, fun k e => ?_, fun k e => ?_, fun k e => ?_⟩, ?_⟩
      · refine (hd4.below hb5).keep hk6 fun k e e2 => ?_
        rcases hSd k e with e | e
        · rcases e2 with e2 | e2
          · exact hSL k e e2
          · have := hSw k e; omega
        · rcases e2 with e2 | e2
          · have := hLw k e2; omega
          · omega
      · rcases hSd k e with e | e
        · rcases e2 with e2 | e2
          · exact hSL k e e2
          · have := hSw k e; omega
        · rcases e2 with e2 | e2
          · have := hLw k e2; omega
          · omega
      · rcases hSd k e with e | e
        · exact .inl (hST k e)
        · exact .inr ⟨e.1, by omega⟩
      · rcases e with e | e
        · exact .inl (hLT k e)
        · exact .inr ⟨by omega, e.2⟩
      · rcases e with e | e
        · have := hT k e; omega
        · exact e.2
      · refine (((Ks.all (S := S) hb2.out).trans hks).trans (Ks.all hb5)).more hST |>.then hk6 fun k e => ?_
        rcases e with e | e
        · exact .inl (hLT k e)
        · exact .inr (by omega)
    · obtain ⟨E, hE2⟩ : ∃ E, hdE (ptS s t l) t l.length = E := ⟨_, rfl⟩
      have hw2' := wr1 E hE2
      have hE : apE s t l = E := by rw [apE, if_pos h1, hE2]
      have hS : apS s t l = hdS (ptS s t l) t l.length := by rw [apS, if_pos h1]
      have hTt : apT s t l = t := by rw [apT, if_neg (by rw [hE, ← hE2]; exact h2)]
      rw [hE2] at h2
      have h2b : (E != 0) = true := by simp [h2]
      replace hE := Lib.hid hE
      replace hS := Lib.hid hS
      replace hTt := Lib.hid hTt
      clear h1 hE2 wr0 wr1
      go_wp2_with (first
        | ((with_reducible refine (ks _).mono ?_); rintro e w ⟨rfl, rfl⟩)
        | ((with_reducible refine (kr _ hL).mono ?_); rintro e w2 ⟨rfl, hb2⟩; replace hb2 := Lib.hid hb2; have hk3 := hw1' _ hb2.out)
        | ((with_reducible refine hk3.mono ?_); rintro e w3 ⟨rfl, hd3, hks3⟩; have hk4 := hw2' _ _ hb2.out hd3 hks3)
        | ((with_reducible refine hk4.mono ?_); rintro e w4 ⟨rfl, hd4, hks4⟩; clear hk3 hk4; have hks := ks_two hks3 hks4; have hL4 := (hL.below hb2.out).keep hks fun k e e3 => hSL k e3 e))
      go_ret
      rw [hE.out, hS.out, hTt.out]
      have s2 := hb2.out.size
      have s3 := hks3.size
      have s4 := hks4.size
      refine ⟨rfl, jr_disk hd4 hL4 (fun k e => ?_) hSL hLw hST hLT hT (by omega), ((Ks.all (S := S) hb2.out).trans hks).more hST⟩
      rcases e with (e | e) | e
      · exact .inl e
      · exact .inr ⟨by omega, by omega⟩
      · exact .inr ⟨by omega, e.2⟩
  · obtain ⟨E, hE1⟩ : ∃ E, ptE s t l = E := ⟨_, rfl⟩
    have hw1' := wr0 E hE1
    have hE : apE s t l = E := by rw [apE, if_neg h1, hE1]
    have hS : apS s t l = ptS s t l := by rw [apS, if_neg h1]
    have hTt : apT s t l = t := by rw [apT, if_neg (by rw [hE, ← hE1]; exact h1)]
    rw [hE1] at h1
    have h1b : (E != 0) = true := by simp [h1]
    replace hE := Lib.hid hE
    replace hS := Lib.hid hS
    replace hTt := Lib.hid hTt
    clear hE1 wr0 wr1
    go_wp2_with (first
      | ((with_reducible refine (ks _).mono ?_); rintro e w ⟨rfl, rfl⟩)
      | ((with_reducible refine (kr _ hL).mono ?_); rintro e w2 ⟨rfl, hb2⟩; replace hb2 := Lib.hid hb2; have hk3 := hw1' _ hb2.out)
      | ((with_reducible refine hk3.mono ?_); rintro e w3 ⟨rfl, hd3, hks3⟩; have hL4 := (hL.below hb2.out).keep hks3 fun k e e3 => hSL k e3 e; clear hk3))
    go_ret
    rw [hE.out, hS.out, hTt.out]
    have s2 := hb2.out.size
    have s3 := hks3.size
    refine ⟨rfl, jr_disk hd3 hL4 (fun k e => ?_) hSL hLw hST hLT hT (by omega), ((Ks.all (S := S) hb2.out).trans hks3).more hST⟩
    rcases e with e | e
    · exact .inl e
    · exact .inr ⟨by omega, e.2⟩
end Go.Proofs.Ytgppaompcnllbaa
