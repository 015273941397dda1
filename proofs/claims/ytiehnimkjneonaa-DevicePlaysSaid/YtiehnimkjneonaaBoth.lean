/- Both disks, side by side: each call on the one and on the other. Conditions: none. -/
import Derived.Test.YtiehnimkjneonaaRefS
import Derived.Test.YtiehnimkjneonaaRestart
namespace Go.Proofs.Ytiehnimkjneonaa
open Go.RowKit
def okW (s : St) (i : Int) (l : List UInt8) : Bool := s.has i && decide (l.length ≤ 64)
def wrS (s : St) (i : Int) (l : List UInt8) : St := if okW s i l then s.write i l else s
def wrE (s : St) (i : Int) (l : List UInt8) : Int := if okW s i l then s.err else 1
def rdB (s : St) (i : Int) : List UInt8 := if s.has i && !s.dead then s.sect i else []
def rdE (s : St) (i : Int) : Int := if s.has i then (if s.dead then 20 else 0) else 1
theorem okW_iff {s : St} {i : Int} {l : List UInt8} : okW s i l = true ↔ (0 ≤ i ∧ i < s.kept.length) ∧ l.length ≤ 64 := by simp [okW, St.has]
theorem grow_wide {S : Nat → Prop} {w w' : World} {b : Nat} {s : St} (h : Ds S w' b s) : Ds (Grow S w w') w' b s := h.wide (fun _ e => .inl e) fun g e => by
  rcases e with e | e
  · exact h.size g e
  · exact e.2

section
variable {S : Nat → Prop} {w : World} {b : Nat} {s : St}
theorem dWrite (h : Ds S w b s) (i : Int) {A : Option Addr} {c : Nat} {l : List UInt8} (hr : Rd w w.heap.size 1 A l.length c (bv l)) (ha : 0 < l.length → ∀ b o, A = some ⟨b, o, none⟩ → ¬ S b) (hw : s.waits.length < 1000000) :
    Calls Try.prog 12 #[.pointer (some ⟨b, 0, none⟩), .int .i64 i, .slice A l.length c] w fun e w' => e = .returned (.int .i64 (wrE s i l)) ∧ Ds (Grow S w w') w' b (wrS s i l) ∧ Ks S w w' := by
  cases ho : okW s i l with
  | true =>
    have h2 : s.has i = true ∧ l.length ≤ 64 := by simpa [okW] using ho
    have e1 : wrS s i l = s.write i l := by rw [wrS, if_pos ho]
    have e2 : wrE s i l = s.err := by rw [wrE, if_pos ho]
    rw [e1, e2]
    cases hd : s.count.dead with
    | true =>
      refine (write_dead_s h i A l.length c h2.1 h2.2 hd).mono fun e w' ⟨he, hD, hk⟩ => ⟨?_, ?_, hk⟩
      · rw [he, St.err, if_pos hd]
      · rw [St.write, if_pos hd]; exact grow_wide hD
    | false =>
      have hd' : ¬ s.count.dead = true := by rw [hd]; simp
      refine (write_s h i hr ha h2.1 h2.2 hd hw).mono fun e w' ⟨he, hD, hk⟩ => ⟨?_, ?_, hk⟩
      · rw [he, St.err, if_neg hd']
      · rw [St.write, if_neg hd']; exact hD
  | false =>
    have e1 : wrS s i l = s := by rw [wrS, if_neg (by rw [ho]; simp)]
    have e2 : wrE s i l = 1 := by rw [wrE, if_neg (by rw [ho]; simp)]
    rw [e1, e2]
    refine (write_bad_s h i A l.length c ?_).mono fun e' w' ⟨he, hw'⟩ => ?_
    · cases hh : s.has i with
      | false => exact .inl rfl
      | true => simp [okW, hh] at ho; exact .inr ho
    · subst hw'
      exact ⟨he, grow_wide h, Ks.refl _ _⟩
theorem dFlush (h : Ds S w b s) (hw : s.waits.length ≤ 1000000) :
    Calls Try.prog 14 #[.pointer (some ⟨b, 0, none⟩)] w fun e w' => e = .returned (.int .i64 s.err) ∧ Ds S w' b s.flush ∧ Ks S w w' := by
  cases hd : s.count.dead with
  | true =>
    rw [St.err, if_pos hd, St.flush, if_pos hd]
    exact flush_dead_s h hd
  | false =>
    have hd' : ¬ s.count.dead = true := by rw [hd]; simp
    rw [St.err, if_neg hd', St.flush, if_neg hd']
    exact flush_s h hd hw
theorem dRead (h : Ds S w b s) (i : Int) :
    Calls Try.prog 21 #[.pointer (some ⟨b, 0, none⟩), .int .i64 i] w fun e w' => ∃ A c, e = .returned (.tuple #[.slice A (rdB s i).length c, .int .i64 (rdE s i)]) ∧ w'.ownsRow w.heap.size 5 1 (.slice A (rdB s i).length c) (rdB s i).length (bv (rdB s i)) ∧ Below w.heap.size w w' := by
  cases hh : s.has i with
  | false =>
    have e1 : rdB s i = [] := by simp [rdB, hh]
    have e2 : rdE s i = 1 := by simp [rdE, hh]
    rw [e1, e2]
    refine (read_bad_s h i hh).mono ?_
    rintro e w' ⟨rfl, rfl⟩
    exact ⟨none, 0, rfl, World.ownsRow_nil _ _ _ _, Below.refl _ _⟩
  | true =>
    cases hd : s.dead with
    | true =>
      have e1 : rdB s i = [] := by simp [rdB, hd]
      have e2 : rdE s i = 20 := by simp [rdE, hh, hd]
      rw [e1, e2]
      refine (read_dead_s h i hh hd).mono ?_
      rintro e w' ⟨rfl, rfl⟩
      exact ⟨none, 0, rfl, World.ownsRow_nil _ _ _ _, Below.refl _ _⟩
    | false =>
      have e1 : rdB s i = s.sect i := by simp [rdB, hh, hd]
      have e2 : rdE s i = 0 := by simp [rdE, hh, hd]
      have hl := St.sect_len h.ok hh
      rw [e1, e2, hl]
      refine (read_s h i hh hd).mono ?_
      rintro e w' ⟨v, rfl, ho, hb⟩
      obtain ⟨A, c, rfl, _⟩ := Rd.own ho
      exact ⟨A, c, rfl, ho, hb⟩
end

def armN (s : St) : Int := if 0 < s.left then s.left else 0
theorem armN_count (s : St) : cntA (armN s) = armN s.count := by
  unfold armN cntA St.count
  by_cases h : 0 < s.left
  · simp only [h, ↓reduceIte]
    split <;> omega
  · simp [h]
theorem cntD_count {s : St} (hok : s.Ok) : cntD (armN s) s.dead = s.count.dead := by
  unfold armN cntD St.count
  by_cases h : 0 < s.left
  · rw [if_pos h, if_pos h]
    have hd : s.dead = false := by
      cases hd : s.dead with
      | false => rfl
      | true => have := hok.dead hd; omega
    by_cases h1 : s.left = 1
    · rw [if_pos h1, h1]; rfl
    · rw [if_neg h1, hd]
      exact (decide_eq_false (by omega)).symm
  · rw [if_neg h, if_neg h, if_neg (by omega)]
theorem armN_arm (s : St) (n : Int) : armA (armN s) n s.dead = armN (s.arm n) := by
  unfold armA St.arm
  cases hd : s.dead with
  | true => simp
  | false => simp [armN]; split <;> split <;> omega
theorem armN_in {s : St} (hok : s.Ok) : -9223372036854775808 ≤ armN s ∧ armN s ≤ 9223372036854775807 := by
  have h1 := hok.lo
  have h2 := hok.hi
  unfold armN
  split <;> omega

/-- The document's disk, beside what may be written. -/
structure Rf (T : Nat → Prop) (w : World) (KA WA : Option Addr) (kc wc : Nat) (s : St) : Prop where
  k : Rd w w.heap.size 1 KA s.kept.length kc (kcs s.kept)
  w : Rd w w.heap.size 2 WA s.waits.length wc (wsCs s.waits)
  ka : 0 < s.kept.length → ∀ b o, KA = some ⟨b, o, none⟩ → ¬ T b
  wa : 0 < s.waits.length → ∀ b o, WA = some ⟨b, o, none⟩ → ¬ T b
section
variable {T T' : Nat → Prop} {w w' : World} {KA WA : Option Addr} {kc wc : Nat} {s : St}
theorem rd_lt {w : World} {B size n c : Nat} {A : Option Addr} {xs : List Value} (h : Rd w B size A n c xs) (hn : 0 < n) : ∀ b o, A = some ⟨b, o, none⟩ → b < B := fun b o e => by
  obtain ⟨b', o', e', hb, _⟩ := h.at_ hn
  rw [e] at e'
  cases e'
  exact hb
theorem Rf.below (h : Rf T w KA WA kc wc s) (hb : Below w.heap.size w w') : Rf T w' KA WA kc wc s := ⟨(h.k.below hb).more hb.size, (h.w.below hb).more hb.size, h.ka, h.wa⟩
theorem Rf.keep (h : Rf T w KA WA kc wc s) (hk : Ks T' w w') (hT : ∀ j, T' j → T j) : Rf T w' KA WA kc wc s :=
  ⟨(hk.rd h.k fun hn b o e ht => h.ka hn b o e (hT b ht)).more hk.size, (hk.rd h.w fun hn b o e ht => h.wa hn b o e (hT b ht)).more hk.size, h.ka, h.wa⟩
theorem Rf.at_ (h : Rf T w KA WA kc wc s) (hT : ∀ j, j < w.heap.size → T' j → T j) : Rf T' w KA WA kc wc s :=
  ⟨h.k, h.w, fun hn b o e ht => h.ka hn b o e (hT b (rd_lt h.k hn b o e) ht), fun hn b o e ht => h.wa hn b o e (hT b (rd_lt h.w hn b o e) ht)⟩
theorem Rf.st (h : Rf T w KA WA kc wc s) {s' : St} (h1 : s'.kept = s.kept) (h2 : s'.waits = s.waits) : Rf T w KA WA kc wc s' := ⟨by rw [h1]; exact h.k, by rw [h2]; exact h.w, by rw [h1]; exact h.ka, by rw [h2]; exact h.wa⟩

theorem rWrite (h : Rf T w KA WA kc wc s) (hT : ∀ j, T j → j < w.heap.size) (hok : s.Ok) (i : Int) (l : List UInt8) (hl : l.length ≤ 1000000) (hm : s.waits.length ≤ 1000000) :
    Calls Try.prog 13 #[.agg #[.slice KA s.kept.length kc, .slice WA s.waits.length wc, .int .i64 (armN s), .bool s.dead], .int .i64 i, .string (strOf l)] w fun e w' => ∃ WA' wc', e = .returned (.tuple #[.agg #[.slice KA (wrS s i l).kept.length kc, .slice WA' (wrS s i l).waits.length wc', .int .i64 (armN (wrS s i l)), .bool (wrS s i l).dead], .int .i64 (wrE s i l)]) ∧ Rf T w' KA WA' kc wc' (wrS s i l) ∧ Below w.heap.size w w' := by
  have hr := armN_in hok
  cases ho : okW s i l with
  | true =>
    have h2 := okW_iff.1 ho
    have e1 : wrS s i l = s.write i l := by rw [wrS, if_pos ho]
    have e2 : wrE s i l = s.err := by rw [wrE, if_pos ho]
    rw [e1, e2]
    cases hd : s.count.dead with
    | true =>
      rw [St.err, if_pos hd, St.write, if_pos hd, ← armN_count, St.count_kept, St.count_waits, hd]
      refine (refWrite_dead w (armN s) i s.dead l h2.1.1 h2.1.2 h2.2 hr ((cntD_count hok).trans hd)).mono ?_
      rintro e w' ⟨rfl, hb⟩
      exact ⟨WA, wc, rfl, (h.below hb).st (St.count_kept s) (St.count_waits s), hb⟩
    | false =>
      have hd' : ¬ s.count.dead = true := by rw [hd]; simp
      obtain ⟨j, rfl⟩ : ∃ j : Nat, i = (j : Int) := ⟨i.toNat, by omega⟩
      have hkp : (s.count.wrote j l).kept = s.kept := St.count_kept s
      have hwt : (s.count.wrote j l).waits = s.waits ++ [(j, pad l)] := by
        show s.count.waits ++ [((j : Int).toNat, pad l)] = _
        rw [St.count_waits, Int.toNat_natCast]
      have hdd : (s.count.wrote j l).dead = false := hd
      have haa : armN (s.count.wrote j l) = cntA (armN s) := (armN_count s).symm
      rw [St.err, if_neg hd', St.write, if_neg hd', haa, hdd, hkp, hwt, List.length_append, List.length_singleton]
      refine (refWrite_ok w (armN s) j s.dead l (wsCs s.waits) h2.1.1 h2.1.2 h2.2 hr ((cntD_count hok).trans hd) h.w (wsCs_one _) hm).mono ?_
      rintro e w' ⟨A, c, rfl, hown, hb⟩
      have hA := own_at hown
      obtain ⟨A2, c2, e2, hrd⟩ := Rd.own hown
      cases e2
      refine ⟨A, c, rfl, ⟨by rw [hkp]; exact (h.below hb).k, ?_, by rw [hkp]; exact h.ka, fun _ b o e ht => by have := hT b ht; have := hA b o e; omega⟩, hb⟩
      rw [hwt, List.length_append, List.length_singleton, wsCs_snoc]
      exact hrd
  | false =>
    have e1 : wrS s i l = s := by rw [wrS, if_neg (by rw [ho]; simp)]
    have e2 : wrE s i l = 1 := by rw [wrE, if_neg (by rw [ho]; simp)]
    rw [e1, e2]
    refine (refWrite_bad w (armN s) i s.dead l hok.most hl ?_).mono ?_
    · by_cases h1 : i < 0
      · exact .inl h1
      · by_cases h3 : (s.kept.length : Int) ≤ i
        · exact .inr (.inl h3)
        · refine .inr (.inr ?_)
          have : ¬ okW s i l = true := by rw [ho]; simp
          rw [okW_iff] at this
          omega
    · rintro e w' ⟨rfl, hb⟩
      exact ⟨WA, wc, rfl, h.below hb, hb⟩
theorem rFlush (h : Rf T w KA WA kc wc s) (hT : ∀ j, T j → j < w.heap.size) (hok : s.Ok) (hm : s.waits.length ≤ 1000000) :
    Calls Try.prog 15 #[.agg #[.slice KA s.kept.length kc, .slice WA s.waits.length wc, .int .i64 (armN s), .bool s.dead]] w fun e w' => ∃ KA' WA' kc' wc', e = .returned (.tuple #[.agg #[.slice KA' s.flush.kept.length kc', .slice WA' s.flush.waits.length wc', .int .i64 (armN s.flush), .bool s.flush.dead], .int .i64 s.err]) ∧ Rf T w' KA' WA' kc' wc' s.flush ∧ Below w.heap.size w w' := by
  have hr := armN_in hok
  have hpos := hok.pos
  have hmost := hok.most
  cases hd : s.count.dead with
  | true =>
    rw [St.err, if_pos hd, St.flush, if_pos hd, ← armN_count, St.count_kept, St.count_waits, hd]
    refine (refFlush_dead w (armN s) s.dead hr ((cntD_count hok).trans hd)).mono ?_
    rintro e w' ⟨rfl, hb⟩
    exact ⟨KA, WA, kc, wc, rfl, (h.below hb).st (St.count_kept s) (St.count_waits s), hb⟩
  | false =>
    have hd' : ¬ s.count.dead = true := by rw [hd]; simp
    have hkp : s.count.flushed.kept = puts s.kept s.waits := by show puts s.count.kept s.count.waits = _; rw [St.count_kept, St.count_waits]
    have hwt : s.count.flushed.waits = [] := rfl
    have hdd : s.count.flushed.dead = false := hd
    have haa : armN s.count.flushed = cntA (armN s) := (armN_count s).symm
    rw [St.err, if_neg hd', St.flush, if_neg hd', haa, hdd, hkp, hwt, puts_length]
    refine (refFlush_ok w (armN s) s.dead s.kept s.waits rfl rfl h.k h.w hmost hm (fun p hp => by have := (hok.wait p hp).1; omega) hr ((cntD_count hok).trans hd) (rd_lt h.k hpos)).mono ?_
    rintro e w' ⟨A, c, rfl, hrd, hA, hb⟩
    refine ⟨A, none, c, 0, rfl, ⟨?_, ?_, ?_, ?_⟩, hb⟩
    · rw [hkp, puts_length]; exact hrd
    · rw [hwt]; exact Rd.none_ _ _ _
    · rw [hkp, puts_length]
      intro hn b o e ht
      rcases hA b o e with e' | e'
      · exact h.ka hn b o e' ht
      · have := hT b ht; omega
    · rw [hwt]; intro hn; exact absurd hn (by simp)
theorem rArm (h : Rf T w KA WA kc wc s) (n : Int) :
    Calls Try.prog 17 #[.agg #[.slice KA s.kept.length kc, .slice WA s.waits.length wc, .int .i64 (armN s), .bool s.dead], .int .i64 n] w fun e w' => e = .returned (.agg #[.slice KA (s.arm n).kept.length kc, .slice WA (s.arm n).waits.length wc, .int .i64 (armN (s.arm n)), .bool (s.arm n).dead]) ∧ Rf T w' KA WA kc wc (s.arm n) ∧ Below w.heap.size w w' := by
  have e1 : (s.arm n).kept = s.kept := by unfold St.arm; split <;> rfl
  have e2 : (s.arm n).waits = s.waits := by unfold St.arm; split <;> rfl
  have e3 : (s.arm n).dead = s.dead := by unfold St.arm; split <;> rfl
  rw [← armN_arm, e1, e2, e3]
  refine (refArm_any w (armN s) n s.dead).mono ?_
  rintro e w' ⟨rfl, hb⟩
  exact ⟨rfl, (h.below hb).st e1 e2, hb⟩
theorem rRestart (h : Rf T w KA WA kc wc s) (hT : ∀ j, T j → j < w.heap.size) (hok : s.Ok) (hm : s.waits.length ≤ 1000000) {E : Option Addr} {ec : Nat} {keep : List Bool} (hk : Rd w w.heap.size 1 E keep.length ec (keep.map Value.bool)) (hkl : keep.length ≤ 1000000) :
    Calls Try.prog 20 #[.agg #[.slice KA s.kept.length kc, .slice WA s.waits.length wc, .int .i64 (armN s), .bool s.dead], .slice E keep.length ec] w fun e w' => ∃ KA' WA' kc' wc', e = .returned (.agg #[.slice KA' (s.restart keep).kept.length kc', .slice WA' (s.restart keep).waits.length wc', .int .i64 (armN (s.restart keep)), .bool (s.restart keep).dead]) ∧ Rf T w' KA' WA' kc' wc' (s.restart keep) ∧ Below w.heap.size w w' := by
  have hpos := hok.pos
  have hmost := hok.most
  have hkp : (s.restart keep).kept = puts s.kept (pick (fun n => keep.getD n false) s.waits) := rfl
  have hwt : (s.restart keep).waits = [] := rfl
  rw [hkp, hwt, puts_length]
  refine (refRestart_any w (armN s) s.dead s.kept s.waits rfl rfl h.k h.w hmost hm (fun p hp => by have := (hok.wait p hp).1; omega) (rd_lt h.k hpos) hk hkl).mono ?_
  rintro e w' ⟨A, c, rfl, hrd, hA, hb⟩
  refine ⟨A, none, c, 0, rfl, ⟨?_, ?_, ?_, ?_⟩, hb⟩
  · rw [hkp, puts_length]; exact hrd
  · rw [hwt]; exact Rd.none_ _ _ _
  · rw [hkp, puts_length]
    intro hn b o e ht
    rcases hA b o e with e' | e'
    · exact h.ka hn b o e' ht
    · have := hT b ht; omega
  · rw [hwt]; intro hn; exact absurd hn (by simp)
theorem rRead (h : Rf T w KA WA kc wc s) (hok : s.Ok) (hm : s.waits.length ≤ 1000000) (i : Int) :
    Calls Try.prog 22 #[.agg #[.slice KA s.kept.length kc, .slice WA s.waits.length wc, .int .i64 (armN s), .bool s.dead], .int .i64 i] w fun e w' => e = .returned (.tuple #[.string (strOf (rdB s i)), .int .i64 (rdE s i)]) ∧ Below w.heap.size w w' := by
  cases hh : s.has i with
  | false =>
    have e1 : rdB s i = [] := by simp [rdB, hh]
    have e2 : rdE s i = 1 := by simp [rdE, hh]
    rw [e1, e2]
    have : ¬ (0 ≤ i ∧ i < s.kept.length) := by rw [← St.has_iff, hh]; simp
    exact refRead_bad w (armN s) i s.dead hok.most (by omega)
  | true =>
    have h2 := St.has_iff.1 hh
    cases hd : s.dead with
    | true =>
      have e1 : rdB s i = [] := by simp [rdB, hd]
      have e2 : rdE s i = 20 := by simp [rdE, hh, hd]
      rw [e1, e2]
      exact refRead_dead w (armN s) i hok.most h2.1 h2.2
    | false =>
      have e1 : rdB s i = s.sect i := by simp [rdB, hh, hd]
      have e2 : rdE s i = 0 := by simp [rdE, hh, hd]
      rw [e1, e2]
      obtain ⟨j, rfl⟩ : ∃ j : Nat, i = (j : Int) := ⟨i.toNat, by omega⟩
      exact refRead_ok w (armN s) j s.kept s.waits (by omega) h.k h.w hok.most hm
end
end Go.Proofs.Ytiehnimkjneonaa
