/- DevicePlays, walked. Conditions: none. -/
import Derived.Test.YtiehnimkjneonaaFew
import Derived.Test.YtiehnimkjneonaaBoth
import Derived.Deep.QuietTactic
import Derived.BigQuiet
import Derived.Deep.DeepCutAuto
namespace Go.Proofs.Ytiehnimkjneonaa
open Go.RowKit

theorem few_play {W w1 : World} {la : List Ac} {A : Option Addr} {c : Nat} (hr : Rd W W.heap.size 4 A la.length c (la.flatMap acCells)) (hb : Below W.heap.size W w1) :
    Calls Try.prog 9 #[.slice A la.length c] w1 fun e w' => e = .returned (.bool (fewB la)) ∧ w' = w1 := few_any w1 (hr.below hb)
theorem Rd.convP {w : World} {B n c : Nat} {A : Option Addr} {l : List UInt8} (h : Rd w B 1 A n c (bv l)) : (convert 34 9 (.slice A n c)).run Try.prog w = .ok (.string (strOf l)) w := h.conv (P := Try.prog) 34 9 5 Try.underlying34 Try.underlying5 Try.underlying9
theorem arm_kept (s : St) (n : Int) : (s.arm n).kept = s.kept := by unfold St.arm; split <;> rfl
theorem arm_waits (s : St) (n : Int) : (s.arm n).waits = s.waits := by unfold St.arm; split <;> rfl
theorem Ds.drewN {S : Nat → Prop} {w : World} {b : Nat} {s : St} (h : Ds S w b s) (m : Nat) : Ds S (w.drewN m) b s := h.same (Nat.le_refl _) fun _ _ => rfl
theorem Rf.drewN {T : Nat → Prop} {w : World} {KA WA : Option Addr} {kc wc : Nat} {s : St} (h : Rf T w KA WA kc wc s) (m : Nat) : Rf T (w.drewN m) KA WA kc wc s := ⟨h.k.keep fun _ _ => rfl, h.w.keep fun _ _ => rfl, h.ka, h.wa⟩
theorem count_len (s : St) : s.count.kept.length = s.kept.length := by rw [St.count_kept]
theorem wrS_kept (s : St) (i : Int) (l : List UInt8) : (wrS s i l).kept.length = s.kept.length := by
  unfold wrS St.write
  split
  · split
    · exact count_len s
    · exact count_len s
  · rfl
theorem wrS_waits (s : St) (i : Int) (l : List UInt8) : (wrS s i l).waits.length ≤ s.waits.length + 1 := by
  unfold wrS St.write
  split
  · split
    · rw [St.count_waits]; omega
    · show (s.count.waits ++ [_]).length ≤ _
      rw [St.count_waits, List.length_append, List.length_singleton]
      exact Nat.le_refl _
  · omega
theorem flush_kept (s : St) : s.flush.kept.length = s.kept.length := by
  unfold St.flush
  split
  · exact count_len s
  · show s.count.now.length = _
    rw [St.nowLen, count_len]
theorem flush_waits (s : St) : s.flush.waits.length ≤ s.waits.length := by
  unfold St.flush
  split
  · rw [St.count_waits]; exact Nat.le_refl _
  · exact Nat.zero_le _
theorem re_kept (s : St) (keep : List Bool) : (s.restart keep).kept.length = s.kept.length := puts_length _ _
theorem rdB_len {s : St} (hok : s.Ok) (i : Int) : (rdB s i).length ≤ 64 := by
  unfold rdB
  split
  · rename_i h
    simp at h
    rw [St.sect_len hok h.1]
    exact Nat.le_refl _
  · simp
/-- The document's disk is written anew. -/
theorem put_g {w : World} {g : Nat} {K W : Value} {a : Int} {d : Bool} (x : D4 w g K W a d) (K' W' : Value) (a' : Int) (d' : Bool) :
    ∃ V, ((((w.setCell ⟨g, 0, none⟩ K').setCell ⟨g, 1, none⟩ W').setCell ⟨g, 2, none⟩ (.int .i64 a')).setCell ⟨g, 3, none⟩ (.bool d')) = V ∧ D4 V g K' W' a' d' ∧ Ks (fun j => j = g) w V :=
  ⟨_, rfl, x.s4 _ _ _ _, ((((Ks.refl (fun j => j = g) w).setCell (p := ⟨g, 0, none⟩) (.inl rfl) K').setCell (p := ⟨g, 1, none⟩) (.inl rfl) W').setCell (p := ⟨g, 2, none⟩) (.inl rfl) (.int .i64 a')).setCell (p := ⟨g, 3, none⟩) (.inl rfl) (.bool d')⟩
theorem ka_below {B : Nat} {w W V : World} {g : Nat} (hb : Below B w W) (hk : Ks (fun j => j = g) W V) (hg : B ≤ g) (hB : B ≤ w.heap.size) : Below B w V := hb.trans (hk.below (fun j e => by subst e; exact hg) (Nat.le_trans hB hb.size))

set_option maxRecDepth 100000 in
set_option maxHeartbeats 16000000 in
theorem plays_walk (w : World) (x : Int) (hx : 0 ≤ x ∧ x ≤ 255) {A : Option Addr} {ca : Nat} {la : List Ac} (hr : Rd w w.heap.size 4 A la.length ca (la.flatMap acCells)) (hl : ∀ a ∈ la, AcOk w a) :
    Calls Try.prog 3 #[.int .u8 x, .slice A la.length ca] w fun e w' => e = .returned (.bool true) ∧ Below w.heap.size w w' := by
  have Hb := Lib.hid (Below.refl w.heap.size w)
  have hB : w.heap.size ≤ w.heap.size := Nat.le_refl _
  obtain ⟨hx0, hx1⟩ := hx
  obtain ⟨n, hn⟩ : ∃ n : Nat, x % 6 + 1 = (n : Int) := ⟨(x % 6 + 1).toNat, by omega⟩
  have hn1 : 1 ≤ n := by omega
  have hn6 : n ≤ 6 := by omega
  have kF := fun W (hb : Below w.heap.size w W) => few_play hr hb
  have hcm := hr.capm
  have hcc := hr.cap
  have hlm : la.length ≤ 9223372036854775807 := by simp only [maxLen] at hcm; omega
  go_enter Try.func3, Try.ntmps3
  cases hfew : fewB la with
  | false =>
    rw [hfew] at kF
    go_wp2_with (first
      | ((with_reducible refine (awake_any _).mono ?_); rintro e w1 ⟨rfl, hb⟩; obtain ⟨Hb, hB⟩ := chain Hb hB hb; clear hb)
      | ((with_reducible refine (kF _ Hb.out).mono ?_); rintro e w2 ⟨rfl, rfl⟩))
    go_ret
    exact ⟨rfl, Hb.out⟩
  | true =>
  rw [hfew] at kF
  obtain ⟨hsm, hl60⟩ := fewB_iff.1 hfew
  have kN := fun W => new_any W n hn1 (by omega)
  have kM := fun W => refNew_any W n (by omega)
  go_wp2_with (first
    | ((with_reducible refine (awake_any _).mono ?_); rintro e w1 ⟨rfl, hb⟩; obtain ⟨Hb, hB⟩ := chain Hb hB hb; clear hb)
    | ((with_reducible refine (kF _ Hb.out).mono ?_); rintro e w2 ⟨rfl, rfl⟩)
    | ((with_reducible refine (kN _).mono ?_); rintro e w4 ⟨b, rfl, d0, hb⟩; have hlo := hB; obtain ⟨Hb, hB⟩ := chain Hb hB hb; clear hb)
    | ((with_reducible refine (kM _).mono ?_); rintro e w5 ⟨KA0, kc0, rfl, ho, hb⟩; have hB4 := hB; have d5 := d0.1.below hb; have hs45 := hb.size; obtain ⟨Hb, hB⟩ := chain Hb hB hb; clear hb))
  clear kF kN kM
  have hfl : (St.fresh n).kept.length = n := by simp [St.fresh]
  have hG0 : D4 (w5.alloc (.cells #[.slice KA0 n kc0, .slice none 0 0, .int .i64 0, .bool false] 32)) w5.heap.size (.slice KA0 n kc0) (.slice none (St.fresh n).waits.length 0) (armN (St.fresh n)) (St.fresh n).dead := D4.new _ _ _ _ _
  have hD0 := d5.alloc (.cells #[.slice KA0 n kc0, .slice none 0 0, .int .i64 0, .bool false] 32)
  have hR0 : Rf (fun j => In w2.heap.size w4.heap.size j ∨ j = w5.heap.size) (w5.alloc (.cells #[.slice KA0 n kc0, .slice none 0 0, .int .i64 0, .bool false] 32)) KA0 none kc0 0 (St.fresh n) := by
    have hat := own_at ho
    have hlt := fun b o (e : KA0 = some ⟨b, o, none⟩) => rd_lt (Rd.own ho).choose_spec.choose_spec.2 hn1
    obtain ⟨A2, c2, e2, hrd⟩ := Rd.own ho
    cases e2
    have hb1 : Below w5.heap.size w5 (w5.alloc (.cells #[.slice KA0 n kc0, .slice none 0 0, .int .i64 0, .bool false] 32)) := (Below.refl _ _).alloc (Nat.le_refl _) _
    refine ⟨?_, Rd.none_ _ _ _, fun hp b o e ht => ?_, fun hp => absurd hp (by simp [St.fresh])⟩
    · rw [hfl]; exact (hrd.below hb1).more hb1.size
    · have h1 := hat b o e
      have h2 := rd_lt hrd hn1 b o e
      rcases ht with ht | ht
      · have := ht.2; omega
      · omega
  have hb0 := Hb.out.alloc hB (.cells #[.slice KA0 n kc0, .slice none 0 0, .int .i64 0, .bool false] 32)
  have hS0 : ∀ j, In w2.heap.size w4.heap.size j → w.heap.size ≤ j ∧ j ≠ w5.heap.size := fun j e => ⟨by have := e.1; omega, by have := e.2; omega⟩
  have hg : w.heap.size ≤ w5.heap.size := hB
  generalize w5.alloc (.cells #[.slice KA0 n kc0, .slice none 0 0, .int .i64 0, .bool false] 32) = V0 at *
  generalize w5.heap.size = g at *
  clear d5 d0 ho Hb
  go_loopw [8, 11] (fun vd vi wr => ∃ (k : Nat) (S : Nat → Prop) (b : Nat) (s : St) (KA WA : Option Addr) (kc wc : Nat), vi = .int .i64 k ∧ vd = .pointer (some ⟨b, 0, none⟩) ∧ k ≤ la.length ∧ Ds S wr b s ∧ (∀ j, S j → w.heap.size ≤ j ∧ j ≠ g) ∧ Rf (fun j => S j ∨ j = g) wr KA WA kc wc s ∧ D4 wr g (.slice KA n kc) (.slice WA s.waits.length wc) (armN s) s.dead ∧ s.kept.length = n ∧ s.waits.length ≤ k ∧ Below w.heap.size w wr) (fun _ vi _ => la.length - (intOf vi).toNat)
  case atStart => exact ⟨0, _, b, _, KA0, none, kc0, 0, rfl, rfl, by omega, hD0, hS0, hR0, hG0, hfl, Nat.le_refl _, hb0⟩
  case round =>
    clear hD0 hR0 hG0 hb0 hS0
    obtain ⟨k, S, b, s, KA, WA, kc, wc, rfl, rfl, hkl, hD, hS, hR, hG, hkn, hws, hbw⟩ := hrel
    by_cases hlt : k < la.length
    case neg =>
      go_wp2_with fail
      go_ret
      exact ⟨rfl, hbw⟩
    obtain ⟨a, hka⟩ : ∃ a, la[k]? = some a := ⟨la[k], List.getElem?_eq_getElem hlt⟩
    have hmem : a ∈ la := List.mem_of_getElem? hka
    have hlz : (k : Int) < (la.length : Int) := by omega
    have hsma := hsm a hmem
    obtain ⟨bb, o, rfl, hbb, c0w, c1w, c2w, c3w⟩ := act_cells hr hka
    have c0 := (hbw.cell (p := ⟨bb, _, none⟩) hbb).trans c0w
    have c1 := (hbw.cell (p := ⟨bb, _, none⟩) hbb).trans c1w
    have c2 := (hbw.cell (p := ⟨bb, _, none⟩) hbb).trans c2w
    have c3 := (hbw.cell (p := ⟨bb, _, none⟩) hbb).trans c3w
    go_upto_region 16 with (fail)
    clear c0 c1 c2 c3 c0w c1w c2w c3w
    have hh := heap_alloc_new wr (.cells #[.int .u8 a.kind, .int .i64 a.at_, .slice a.A a.b.length a.c, .slice a.K a.k.length a.e] 37)
    have hhS : ¬ S wr.heap.size := fun e => by have := hD.size _ e; omega
    have hhg : wr.heap.size ≠ g := by have := hG.lt; omega
    have hV1 : (wr.alloc (.cells #[.int .u8 a.kind, .int .i64 a.at_, .slice a.A a.b.length a.c, .slice a.K a.k.length a.e] 37)).heap.size = wr.heap.size + 1 := by simp
    have hb1 : Below wr.heap.size wr (wr.alloc (.cells #[.int .u8 a.kind, .int .i64 a.at_, .slice a.A a.b.length a.c, .slice a.K a.k.length a.e] 37)) := (Below.refl _ _).alloc (Nat.le_refl _) _
    have hD := hD.alloc (.cells #[.int .u8 a.kind, .int .i64 a.at_, .slice a.A a.b.length a.c, .slice a.K a.k.length a.e] 37)
    have hR := hR.below hb1
    have hG := hG.alloc (.cells #[.int .u8 a.kind, .int .i64 a.at_, .slice a.A a.b.length a.c, .slice a.K a.k.length a.e] 37)
    have hbw := hbw.alloc hbw.size (.cells #[.int .u8 a.kind, .int .i64 a.at_, .slice a.A a.b.length a.c, .slice a.K a.k.length a.e] 37)
    generalize wr.alloc (.cells #[.int .u8 a.kind, .int .i64 a.at_, .slice a.A a.b.length a.c, .slice a.K a.k.length a.e] 37) = V at *
    generalize wr.heap.size = h at *
    clear hb1
    have hok := hD.ok
    have hrb := ((hl a hmem).b.below hbw).more hbw.size
    have hrk := ((hl a hmem).k.below hbw).more hbw.size
    have hat := (hl a hmem).at_
    have a0 : V.cell? ⟨h, 0, none⟩ = some (.int .u8 a.kind) := by rw [cell_of_row _ _ _ _ _ _ hh]; rfl
    have a1 : V.cell? ⟨h, 1, none⟩ = some (.int .i64 a.at_) := by rw [cell_of_row _ _ _ _ _ _ hh]; rfl
    have a2 : V.cell? ⟨h, 2, none⟩ = some (.slice a.A a.b.length a.c) := by rw [cell_of_row _ _ _ _ _ _ hh]; rfl
    have a3 : V.cell? ⟨h, 3, none⟩ = some (.slice a.K a.k.length a.e) := by rw [cell_of_row _ _ _ _ _ _ hh]; rfl
    have hVh : h < V.heap.size := by omega
    have g0 := hG.c0
    have g1 := hG.c1
    have g2 := hG.c2
    have g3 := hG.c3
    clear hh
    by_cases h0 : a.kind = 0
    case pos =>
      rw [h0] at a0
      have hkn5 : (wrS s a.at_ a.b).kept.length = n := by rw [wrS_kept]; exact hkn
      have hwx := wrS_waits s a.at_ a.b
      have hab := hsma.1
      have kA := fun W T (hb : Rf T W KA WA kc wc s) hT => rWrite hb hT hok a.at_ a.b (by omega) (by omega)
      rw [hkn, hkn5] at kA
      have haS : 0 < a.b.length → ∀ b o, a.A = some ⟨b, o, none⟩ → ¬ S b := fun hn b o e hs => by
        have h1 := rd_lt (hl a hmem).b hn b o e
        have h2 := (hS b hs).1
        omega
      have kD := dWrite hD a.at_ hrb haS (by omega)
      go_upto_region 47 with (first
        | ((with_reducible refine kD.mono ?_); rintro e v2 ⟨rfl, hD2, hk2⟩; have hG2 := hG.same (hk2.block g hG.lt (fun e => (hS g e).2 rfl)); have hR2 := (hR.at_ (T' := fun j => Grow S V v2 j ∨ j = g) (fun j hj e => (by rcases e with (e | e) | e; exact .inl e; exact absurd e.1 (by omega); exact .inr e))).keep hk2 (fun j e => .inl (.inl e)); have hT2 : ∀ j, (Grow S V v2 j ∨ j = g) → j < v2.heap.size := (fun j e => (by rcases e with e | e; exact hD2.size j e; exact e ▸ hG2.lt)); have b2 := hbw.trans (hk2.below (fun j e => (hS j e).1) hbw.size); have f1 := (World.cell?_of_block (a := ⟨h, 1, none⟩) (hk2.block h hVh hhS)).trans a1; have f2 := (World.cell?_of_block (a := ⟨h, 2, none⟩) (hk2.block h hVh hhS)).trans a2; have hcv := ((hl a hmem).b.below b2).convP; clear a1 a2; clear g0 g1 g2 g3; have g0 := hG2.c0; have g1 := hG2.c1; have g2 := hG2.c2; have g3 := hG2.c3; clear hk2 kD)
        | ((with_reducible refine (kA _ _ hR2 hT2).mono ?_); rintro e v3 ⟨WA', wc', rfl, hR3', hb⟩; have hG3 := (hG2.on hb).alloc (.cells #[.slice KA n kc, .slice WA' (wrS s a.at_ a.b).waits.length wc', .int .i64 (armN (wrS s a.at_ a.b)), .bool (wrS s a.at_ a.b).dead] 32); have hD3 := (hD2.below hb).alloc (.cells #[.slice KA n kc, .slice WA' (wrS s a.at_ a.b).waits.length wc', .int .i64 (armN (wrS s a.at_ a.b)), .bool (wrS s a.at_ a.b).dead] 32); have hR3 := hR3'.below ((Below.refl v3.heap.size v3).alloc (Nat.le_refl _) (.cells #[.slice KA n kc, .slice WA' (wrS s a.at_ a.b).waits.length wc', .int .i64 (armN (wrS s a.at_ a.b)), .bool (wrS s a.at_ a.b).dead] 32)); have b3 := (b2.trans (hb.mono b2.size)).alloc (Nat.le_trans b2.size hb.size) (.cells #[.slice KA n kc, .slice WA' (wrS s a.at_ a.b).waits.length wc', .int .i64 (armN (wrS s a.at_ a.b)), .bool (wrS s a.at_ a.b).dead] 32); clear g0 g1 g2 g3; have g0 := hG3.c0; have g1 := hG3.c1; have g2 := hG3.c2; have g3 := hG3.c3; have gf := hG3.fz; clear hb hR2 hD2 hG2 b2 hR3'))
      have hw5 : (wrS s a.at_ a.b).waits.length ≤ k + 1 := by omega
      have hS5 : ∀ j, Grow S V v2 j → w.heap.size ≤ j ∧ j ≠ g := fun j e => by
        rcases e with e | e
        · exact hS j e
        · exact ⟨by have := hbw.size; omega, by have := hG.lt; omega⟩
      obtain ⟨V5, e5, hG5, hk5⟩ := put_g hG3 (.slice KA n kc) (.slice WA' (wrS s a.at_ a.b).waits.length wc') (armN (wrS s a.at_ a.b)) (wrS s a.at_ a.b).dead
      rw [e5]
      have hD5 := hD3.keep hk5 (fun j e => (hS5 j e).2)
      have hR5 := hR3.keep hk5 (fun j e => .inr e)
      have b5 := ka_below b3 hk5 hg (Nat.le_refl _)
      clear e5 hk5 hG3 hD3 hR3 b3
      generalize (wrS s a.at_ a.b) = s5 at *
      clear hS hD hR hG hbw g0 g1 g2 g3 gf a0 a3 f1 f2 hcv hwx
      have hbs5 := b5.size
      have kR := fun W (hb : Rf (fun j => Grow S V v2 j ∨ j = g) W KA WA' kc wc' s5) (hok : s5.Ok) (i : Int) => rRead hb hok (by omega) i
      rw [hkn5] at kR
      have kL := fun W (hb : Ds ((Grow S V v2)) W b s5) => len_s hb
      rw [hkn5] at kL
      go_wp2_with fail
      go_loopw [26] (fun vk wq => ∃ j : Nat, vk = .int .i64 j ∧ j ≤ n ∧ Below V5.heap.size V5 wq) (fun vk _ => n - (intOf vk).toNat)
      case atStart => exact ⟨0, rfl, by omega, Below.refl _ _⟩
      case round =>
        obtain ⟨j, rfl, hjn, hbz⟩ := hrel
        have hD6 := hD5.below hbz
        have hG6 := hG5.on hbz
        by_cases hltj : j < n
        · have hlzj : (j : Int) < (n : Int) := by omega
          have hR6 := hR5.below hbz
          have hokj := hD6.ok
          have kx := dRead hD6 (j : Int)
          have hbzs := hbz.size
          have Hz := Lib.hid hbz
          clear hbz
          go_wp2_with (first
            | ((with_reducible refine kx.mono ?_); rintro e y1 ⟨A1, q1, rfl, o1, hb⟩; have q0 := (hG6.on hb).c0; have q1' := (hG6.on hb).c1; have q2 := (hG6.on hb).c2; have q3 := (hG6.on hb).c3; have hR7 := hR6.below hb; have hz1 := Lib.hid (Hz.out.trans (hb.mono hbzs)); have hzs1 := hb.size; clear hb kx)
            | ((with_reducible refine (kR _ hR7 hokj (j : Int)).mono ?_); rintro e y2 ⟨rfl, hb⟩; obtain ⟨A2, c2, e2, hrd⟩ := Rd.own o1; cases e2; have hcv := (hrd.below hb).convP; have hz2 := hz1.out.trans (hb.mono (Nat.le_trans hbzs hzs1)); clear hb hz1))
          go_roundw
          case rel => exact ⟨j + 1, by simp, by omega, hz2⟩
          case measure => simp [intOf]; omega
        · have q0 := hG6.c0
          have q1 := hG6.c1
          have q2 := hG6.c2
          have q3 := hG6.c3
          have hb6 := b5.trans (hbz.mono hbs5)
          have hR6 := hR5.below hbz
          go_wp2_with fail
          go_quiet (first | (go_at_call 23; exact Calls.quiet_of_same (dead_s (hD6.drewN _))) | (go_at_call 18; exact Calls.quiet_of_same (waiting_s (hD6.drewN _))) | (go_at_call 24; exact Calls.quiet_of_same (kL _ (hD6.drewN _))))
          go_wp2
          exact ⟨⟨k + 1, _, _, s5, _, _, _, _, rfl, rfl, by omega, hD6.drewN nq, hS5, hR6.drewN nq, (show D4 (wr.drewN nq) g _ _ _ _ from hG6), hkn5, hw5, ⟨hb6.os, hb6.tape, hb6.output, hb6.size, hb6.block⟩⟩, by simp [intOf]; omega⟩
    by_cases h1 : a.kind = 1
    case pos =>
      rw [h1] at a0
      have hkn5 : s.flush.kept.length = n := by rw [flush_kept]; exact hkn
      have hwx := flush_waits s
      have kA := fun W T (hb : Rf T W KA WA kc wc s) hT => rFlush hb hT hok (by omega)
      rw [hkn, hkn5] at kA
      have kD := dFlush hD (by omega)
      go_upto_region 47 with (first
        | ((with_reducible refine kD.mono ?_); rintro e v2 ⟨rfl, hD2, hk2⟩; have hG2 := hG.same (hk2.block g hG.lt (fun e => (hS g e).2 rfl)); have hR2 := hR.keep hk2 (fun j e => .inl e); have hT2 : ∀ j, (S j ∨ j = g) → j < v2.heap.size := (fun j e => (by rcases e with e | e; exact hD2.size j e; exact e ▸ hG2.lt)); have b2 := hbw.trans (hk2.below (fun j e => (hS j e).1) hbw.size); clear g0 g1 g2 g3; have g0 := hG2.c0; have g1 := hG2.c1; have g2 := hG2.c2; have g3 := hG2.c3; clear hk2 kD)
        | ((with_reducible refine (kA _ _ hR2 hT2).mono ?_); rintro e v3 ⟨KA', WA', kc', wc', rfl, hR3', hb⟩; have hG3 := (hG2.on hb).alloc (.cells #[.slice KA' n kc', .slice WA' s.flush.waits.length wc', .int .i64 (armN s.flush), .bool s.flush.dead] 32); have hD3 := (hD2.below hb).alloc (.cells #[.slice KA' n kc', .slice WA' s.flush.waits.length wc', .int .i64 (armN s.flush), .bool s.flush.dead] 32); have hR3 := hR3'.below ((Below.refl v3.heap.size v3).alloc (Nat.le_refl _) (.cells #[.slice KA' n kc', .slice WA' s.flush.waits.length wc', .int .i64 (armN s.flush), .bool s.flush.dead] 32)); have b3 := (b2.trans (hb.mono b2.size)).alloc (Nat.le_trans b2.size hb.size) (.cells #[.slice KA' n kc', .slice WA' s.flush.waits.length wc', .int .i64 (armN s.flush), .bool s.flush.dead] 32); clear g0 g1 g2 g3; have g0 := hG3.c0; have g1 := hG3.c1; have g2 := hG3.c2; have g3 := hG3.c3; have gf := hG3.fz; clear hb hR2 hD2 hG2 b2 hR3'))
      have hw5 : s.flush.waits.length ≤ k + 1 := by omega
      have hS5 := hS
      obtain ⟨V5, e5, hG5, hk5⟩ := put_g hG3 (.slice KA' n kc') (.slice WA' s.flush.waits.length wc') (armN s.flush) s.flush.dead
      rw [e5]
      have hD5 := hD3.keep hk5 (fun j e => (hS5 j e).2)
      have hR5 := hR3.keep hk5 (fun j e => .inr e)
      have b5 := ka_below b3 hk5 hg (Nat.le_refl _)
      clear e5 hk5 hG3 hD3 hR3 b3
      generalize s.flush = s5 at *
      clear hS hD hR hG hbw g0 g1 g2 g3 gf a0 a1 a2 a3 hwx
      have hbs5 := b5.size
      have kR := fun W (hb : Rf (fun j => S j ∨ j = g) W KA' WA' kc' wc' s5) (hok : s5.Ok) (i : Int) => rRead hb hok (by omega) i
      rw [hkn5] at kR
      have kL := fun W (hb : Ds (S) W b s5) => len_s hb
      rw [hkn5] at kL
      go_wp2_with fail
      go_loopw [26] (fun vk wq => ∃ j : Nat, vk = .int .i64 j ∧ j ≤ n ∧ Below V5.heap.size V5 wq) (fun vk _ => n - (intOf vk).toNat)
      case atStart => exact ⟨0, rfl, by omega, Below.refl _ _⟩
      case round =>
        obtain ⟨j, rfl, hjn, hbz⟩ := hrel
        have hD6 := hD5.below hbz
        have hG6 := hG5.on hbz
        by_cases hltj : j < n
        · have hlzj : (j : Int) < (n : Int) := by omega
          have hR6 := hR5.below hbz
          have hokj := hD6.ok
          have kx := dRead hD6 (j : Int)
          have hbzs := hbz.size
          have Hz := Lib.hid hbz
          clear hbz
          go_wp2_with (first
            | ((with_reducible refine kx.mono ?_); rintro e y1 ⟨A1, q1, rfl, o1, hb⟩; have q0 := (hG6.on hb).c0; have q1' := (hG6.on hb).c1; have q2 := (hG6.on hb).c2; have q3 := (hG6.on hb).c3; have hR7 := hR6.below hb; have hz1 := Lib.hid (Hz.out.trans (hb.mono hbzs)); have hzs1 := hb.size; clear hb kx)
            | ((with_reducible refine (kR _ hR7 hokj (j : Int)).mono ?_); rintro e y2 ⟨rfl, hb⟩; obtain ⟨A2, c2, e2, hrd⟩ := Rd.own o1; cases e2; have hcv := (hrd.below hb).convP; have hz2 := hz1.out.trans (hb.mono (Nat.le_trans hbzs hzs1)); clear hb hz1))
          go_roundw
          case rel => exact ⟨j + 1, by simp, by omega, hz2⟩
          case measure => simp [intOf]; omega
        · have q0 := hG6.c0
          have q1 := hG6.c1
          have q2 := hG6.c2
          have q3 := hG6.c3
          have hb6 := b5.trans (hbz.mono hbs5)
          have hR6 := hR5.below hbz
          go_wp2_with fail
          go_quiet (first | (go_at_call 23; exact Calls.quiet_of_same (dead_s (hD6.drewN _))) | (go_at_call 18; exact Calls.quiet_of_same (waiting_s (hD6.drewN _))) | (go_at_call 24; exact Calls.quiet_of_same (kL _ (hD6.drewN _))))
          go_wp2
          exact ⟨⟨k + 1, _, _, s5, _, _, _, _, rfl, rfl, by omega, hD6.drewN nq, hS5, hR6.drewN nq, (show D4 (wr.drewN nq) g _ _ _ _ from hG6), hkn5, hw5, ⟨hb6.os, hb6.tape, hb6.output, hb6.size, hb6.block⟩⟩, by simp [intOf]; omega⟩
    by_cases h2 : a.kind = 2
    case pos =>
      rw [h2] at a0
      have hkn5 : (s.arm a.at_).kept.length = n := by rw [arm_kept]; exact hkn
      have kA := fun W (hb : Rf (fun j => S j ∨ j = g) W KA WA kc wc s) => rArm hb a.at_
      rw [hkn, hkn5] at kA
      go_upto_region 47 with (first
        | ((with_reducible refine (arm_s hD a.at_ hat.1 hat.2).mono ?_); rintro e v2 ⟨⟨v, rfl⟩, hD2, hk2⟩; have hG2 := hG.same (hk2.block g hG.lt (fun e => (hS g e).2 rfl)); have hR2 := hR.keep hk2 (fun j e => .inl e); have b2 := hbw.trans (hk2.below (fun j e => (hS j e).1) hbw.size); have f1 := (World.cell?_of_block (a := ⟨h, 1, none⟩) (hk2.block h hVh hhS)).trans a1; clear g0 g1 g2 g3 a1; have g0 := hG2.c0; have g1 := hG2.c1; have g2 := hG2.c2; have g3 := hG2.c3; clear hk2)
        | ((with_reducible refine (kA _ hR2).mono ?_); rintro e v3 ⟨rfl, hR3, hb⟩; have hG3 := hG2.on hb; have hD3 := hD2.below hb; have b3 := b2.trans (hb.mono b2.size); clear g0 g1 g2 g3; have g0 := hG3.c0; have g1 := hG3.c1; have g2 := hG3.c2; have g3 := hG3.c3; have gf := hG3.fz; clear hb hR2 hD2 hG2 b2))
      have hw5 : (s.arm a.at_).waits.length ≤ k + 1 := by rw [arm_waits]; omega
      have hS5 := hS
      obtain ⟨V5, e5, hG5, hk5⟩ := put_g hG3 (.slice KA n kc) (.slice WA (s.arm a.at_).waits.length wc) (armN (s.arm a.at_)) (s.arm a.at_).dead
      rw [e5]
      have hD5 := hD3.keep hk5 (fun j e => (hS5 j e).2)
      have hR5 := hR3.keep hk5 (fun j e => .inr e)
      have b5 := ka_below b3 hk5 hg (Nat.le_refl _)
      clear e5 hk5 hG3 hD3 hR3 b3
      generalize (s.arm a.at_) = s5 at *
      clear hS hD hR hG hbw g0 g1 g2 g3 gf a0 a2 a3 f1
      have hbs5 := b5.size
      have kR := fun W (hb : Rf (fun j => S j ∨ j = g) W KA WA kc wc s5) (hok : s5.Ok) (i : Int) => rRead hb hok (by omega) i
      rw [hkn5] at kR
      have kL := fun W (hb : Ds (S) W b s5) => len_s hb
      rw [hkn5] at kL
      go_wp2_with fail
      go_loopw [26] (fun vk wq => ∃ j : Nat, vk = .int .i64 j ∧ j ≤ n ∧ Below V5.heap.size V5 wq) (fun vk _ => n - (intOf vk).toNat)
      case atStart => exact ⟨0, rfl, by omega, Below.refl _ _⟩
      case round =>
        obtain ⟨j, rfl, hjn, hbz⟩ := hrel
        have hD6 := hD5.below hbz
        have hG6 := hG5.on hbz
        by_cases hltj : j < n
        · have hlzj : (j : Int) < (n : Int) := by omega
          have hR6 := hR5.below hbz
          have hokj := hD6.ok
          have kx := dRead hD6 (j : Int)
          have hbzs := hbz.size
          have Hz := Lib.hid hbz
          clear hbz
          go_wp2_with (first
            | ((with_reducible refine kx.mono ?_); rintro e y1 ⟨A1, q1, rfl, o1, hb⟩; have q0 := (hG6.on hb).c0; have q1' := (hG6.on hb).c1; have q2 := (hG6.on hb).c2; have q3 := (hG6.on hb).c3; have hR7 := hR6.below hb; have hz1 := Lib.hid (Hz.out.trans (hb.mono hbzs)); have hzs1 := hb.size; clear hb kx)
            | ((with_reducible refine (kR _ hR7 hokj (j : Int)).mono ?_); rintro e y2 ⟨rfl, hb⟩; obtain ⟨A2, c2, e2, hrd⟩ := Rd.own o1; cases e2; have hcv := (hrd.below hb).convP; have hz2 := hz1.out.trans (hb.mono (Nat.le_trans hbzs hzs1)); clear hb hz1))
          go_roundw
          case rel => exact ⟨j + 1, by simp, by omega, hz2⟩
          case measure => simp [intOf]; omega
        · have q0 := hG6.c0
          have q1 := hG6.c1
          have q2 := hG6.c2
          have q3 := hG6.c3
          have hb6 := b5.trans (hbz.mono hbs5)
          have hR6 := hR5.below hbz
          go_wp2_with fail
          go_quiet (first | (go_at_call 23; exact Calls.quiet_of_same (dead_s (hD6.drewN _))) | (go_at_call 18; exact Calls.quiet_of_same (waiting_s (hD6.drewN _))) | (go_at_call 24; exact Calls.quiet_of_same (kL _ (hD6.drewN _))))
          go_wp2
          exact ⟨⟨k + 1, _, _, s5, _, _, _, _, rfl, rfl, by omega, hD6.drewN nq, hS5, hR6.drewN nq, (show D4 (wr.drewN nq) g _ _ _ _ from hG6), hkn5, hw5, ⟨hb6.os, hb6.tape, hb6.output, hb6.size, hb6.block⟩⟩, by simp [intOf]; omega⟩
    by_cases h3 : a.kind = 3
    case pos =>
      rw [h3] at a0
      have hkn5 : (s.restart a.k).kept.length = n := by rw [re_kept]; exact hkn
      have hak := hsma.2
      have kA := fun W T (hb : Rf T W KA WA kc wc s) hT (hk : Rd W W.heap.size 1 a.K a.k.length a.e (a.k.map Value.bool)) => rRestart hb hT hok (by omega) hk (by omega)
      rw [hkn, hkn5] at kA
      have kD := restart_s hD (by omega) hrk (Nat.le_refl _)
      have kW := waiting_s hD
      go_upto_region 45 with (first
        | ((with_reducible refine kW.mono ?_); rintro e v1 ⟨rfl, rfl⟩)
        | ((with_reducible refine kD.mono ?_); rintro e v2 ⟨b', rfl, hX2, hb⟩; have hD2 := hD.below hb; have hG2 := hG.on hb; have hR2 := (hR.at_ (T' := fun j => In v1.heap.size v2.heap.size j ∨ j = g) (fun j hj e => (by rcases e with e | e; exact absurd e.1 (by omega); exact .inr e))).below hb; have hT2 : ∀ j, (In v1.heap.size v2.heap.size j ∨ j = g) → j < v2.heap.size := (fun j e => (by rcases e with e | e; exact e.2; exact e ▸ hG2.lt)); have hk2 := (hrk.below hb).more hb.size; have b2 := hbw.trans (hb.mono hbw.size); have f3 := (World.cell?_of_block (a := ⟨h, 3, none⟩) (hb.block h hVh)).trans a3; clear a3; clear g0 g1 g2 g3; have g0 := hG2.c0; have g1 := hG2.c1; have g2 := hG2.c2; have g3 := hG2.c3; clear hb kD)
        | ((with_reducible refine (kA _ _ hR2 hT2 hk2).mono ?_); rintro e v3 ⟨KA', WA', kc', wc', rfl, hR3, hb⟩; have hG3 := hG2.on hb; have hX3 := hX2.below hb; have hD3 := hD2.below hb; have b3 := b2.trans (hb.mono b2.size); clear g0 g1 g2 g3; have g0 := hG3.c0; have g1 := hG3.c1; have g2 := hG3.c2; have g3 := hG3.c3; have gf := hG3.fz; clear hb hR2 hD2 hG2 b2))
      have hw5 : (s.restart a.k).waits.length ≤ k + 1 := Nat.zero_le _
      have hS5 : ∀ j, In v1.heap.size v2.heap.size j → w.heap.size ≤ j ∧ j ≠ g := fun j e => ⟨by have := hbw.size; have := e.1; omega, by have := hG.lt; have := e.1; omega⟩
      obtain ⟨V5, e5, hG5, hk5⟩ := put_g hG3 (.slice KA' n kc') (.slice WA' (s.restart a.k).waits.length wc') (armN (s.restart a.k)) (s.restart a.k).dead
      rw [e5]
      have hDo := hD3.keep hk5 (fun j e => (hS j e).2)
      have hD5 := hX3.keep hk5 (fun j e => (hS5 j e).2)
      have hR5 := hR3.keep hk5 (fun j e => .inr e)
      have b5 := ka_below b3 hk5 hg (Nat.le_refl _)
      clear e5 hk5 hG3 hD3 hR3 b3 hX3 g0 g1 g2 g3 gf
      go_upto_region 47 with ((with_reducible refine (waiting_s hDo).mono ?_); rintro e V5 ⟨rfl, rfl⟩)
      generalize (s.restart a.k) = s5 at *
      clear hS hD hR hG hbw a0 a1 a2 f3 hDo
      have hbs5 := b5.size
      have kR := fun W (hb : Rf (fun j => In v1.heap.size v2.heap.size j ∨ j = g) W KA' WA' kc' wc' s5) (hok : s5.Ok) (i : Int) => rRead hb hok (by omega) i
      rw [hkn5] at kR
      have kL := fun W (hb : Ds ((In v1.heap.size v2.heap.size)) W b' s5) => len_s hb
      rw [hkn5] at kL
      go_wp2_with fail
      go_loopw [26] (fun vk wq => ∃ j : Nat, vk = .int .i64 j ∧ j ≤ n ∧ Below V5.heap.size V5 wq) (fun vk _ => n - (intOf vk).toNat)
      case atStart => exact ⟨0, rfl, by omega, Below.refl _ _⟩
      case round =>
        obtain ⟨j, rfl, hjn, hbz⟩ := hrel
        have hD6 := hD5.below hbz
        have hG6 := hG5.on hbz
        by_cases hltj : j < n
        · have hlzj : (j : Int) < (n : Int) := by omega
          have hR6 := hR5.below hbz
          have hokj := hD6.ok
          have kx := dRead hD6 (j : Int)
          have hbzs := hbz.size
          have Hz := Lib.hid hbz
          clear hbz
          go_wp2_with (first
            | ((with_reducible refine kx.mono ?_); rintro e y1 ⟨A1, q1, rfl, o1, hb⟩; have q0 := (hG6.on hb).c0; have q1' := (hG6.on hb).c1; have q2 := (hG6.on hb).c2; have q3 := (hG6.on hb).c3; have hR7 := hR6.below hb; have hz1 := Lib.hid (Hz.out.trans (hb.mono hbzs)); have hzs1 := hb.size; clear hb kx)
            | ((with_reducible refine (kR _ hR7 hokj (j : Int)).mono ?_); rintro e y2 ⟨rfl, hb⟩; obtain ⟨A2, c2, e2, hrd⟩ := Rd.own o1; cases e2; have hcv := (hrd.below hb).convP; have hz2 := hz1.out.trans (hb.mono (Nat.le_trans hbzs hzs1)); clear hb hz1))
          go_roundw
          case rel => exact ⟨j + 1, by simp, by omega, hz2⟩
          case measure => simp [intOf]; omega
        · have q0 := hG6.c0
          have q1 := hG6.c1
          have q2 := hG6.c2
          have q3 := hG6.c3
          have hb6 := b5.trans (hbz.mono hbs5)
          have hR6 := hR5.below hbz
          go_wp2_with fail
          go_quiet (first | (go_at_call 23; exact Calls.quiet_of_same (dead_s (hD6.drewN _))) | (go_at_call 18; exact Calls.quiet_of_same (waiting_s (hD6.drewN _))) | (go_at_call 24; exact Calls.quiet_of_same (kL _ (hD6.drewN _))))
          go_wp2
          exact ⟨⟨k + 1, _, _, s5, _, _, _, _, rfl, rfl, by omega, hD6.drewN nq, hS5, hR6.drewN nq, (show D4 (wr.drewN nq) g _ _ _ _ from hG6), hkn5, hw5, ⟨hb6.os, hb6.tape, hb6.output, hb6.size, hb6.block⟩⟩, by simp [intOf]; omega⟩
    have hkn5 := hkn
    have kA := fun W (hb : Rf (fun j => S j ∨ j = g) W KA WA kc wc s) => rRead hb hok (by omega) a.at_
    rw [hkn] at kA
    have kD := dRead hD a.at_
    have hlen := rdB_len hok a.at_
    have hk0 : decide (a.kind = 0) = false := by simpa using h0
    have hk1 : decide (a.kind = 1) = false := by simpa using h1
    have hk2 : decide (a.kind = 2) = false := by simpa using h2
    have hk3 : decide (a.kind = 3) = false := by simpa using h3
    go_wp2_with (first
      | ((with_reducible refine kD.mono ?_); rintro e y1 ⟨A1, q1, rfl, o1, hb⟩; have f1 := (World.cell?_of_block (a := ⟨h, 1, none⟩) (hb.block h hVh)).trans a1; clear a1; clear g0 g1 g2 g3; have g0 := (hG.on hb).c0; have g1 := (hG.on hb).c1; have g2 := (hG.on hb).c2; have g3 := (hG.on hb).c3; have hR1 := hR.below hb; have hz1 := Lib.hid hb; clear hb kD)
      | ((with_reducible refine (kA _ hR1).mono ?_); rintro e y2 ⟨rfl, hb⟩; have o2 := own_same o1 (fun q e => hb.block q (o1.lt q e).2); obtain ⟨A2, c2, e2, hrd⟩ := Rd.own o2; cases e2; have hcv := hrd.convP; have hz2 := hz1.out.trans (hb.mono hz1.out.size); clear hb hz1 hrd o1))
    have hL : ((rdB s a.at_).length : Int) ≤ 64 := by omega
    go_loopw [25] (fun vk wq => ∃ (j : Nat) (xs : List Int), vk = .int .i64 j ∧ j ≤ (rdB s a.at_).length ∧ xs.length = (rdB s a.at_).length ∧ wq.ownsRow V.heap.size 5 1 (.slice A1 (rdB s a.at_).length q1) (rdB s a.at_).length (xs.map (Value.int .u8)) ∧ Below V.heap.size V wq) (fun vk _ => (rdB s a.at_).length - (intOf vk).toNat)
    case atStart => exact ⟨0, (rdB s a.at_).map fun u => (u.toNat : Int), rfl, by omega, by simp, by rw [List.map_map]; exact o2, hz2⟩
    case round =>
      obtain ⟨j, xs, rfl, hjl, hxl, hox, hbx⟩ := hrel
      by_cases hltj : j < (rdB s a.at_).length
      · have hlzj : (j : Int) < ((rdB s a.at_).length : Int) := by omega
        obtain ⟨q, cq, eq, hq1, hq2⟩ := own_pos hox (by omega)
        cases eq
        have hxc := hox.cellAt j (by omega)
        rw [List.getElem?_map, List.getElem?_eq_getElem (by omega)] at hxc
        have hxf := hox.frozenAt j
        go_wp2_with fail
        refine ⟨⟨j + 1, xs.set j ((xs[j] + 1) % 256), rfl, by omega, by rw [List.length_set]; exact hxl, ?_, hbx.setCell hq1 _⟩, by simp [intOf]; omega⟩
        rw [List.map_set]
        exact (hox.stored j _).1
      · obtain rfl : j = (rdB s a.at_).length := by omega
        have hD5 := hD.below hbx
        have hR5 := hR.below hbx
        have hG5 := hG.on hbx
        have b5 := hbw.trans (hbx.mono hbw.size)
        have hw5 : s.waits.length ≤ k + 1 := by omega
        have hS5 := hS
        rename World => V5
        obtain ⟨s5, hs5⟩ : ∃ s5, s5 = s := ⟨s, rfl⟩
        rw [← hs5] at hD5 hR5 hG5 hkn5 hw5
        clear hS hD hR hG hbw g0 g1 g2 g3 a0 a2 a3 f1 hcv o2 hox hs5
        have hbs5 := b5.size
        have kR := fun W (hb : Rf (fun j => S j ∨ j = g) W KA WA kc wc s5) (hok : s5.Ok) (i : Int) => rRead hb hok (by omega) i
        rw [hkn5] at kR
        have kL := fun W (hb : Ds (S) W b s5) => len_s hb
        rw [hkn5] at kL
        go_wp2_with fail
        go_loopw [26] (fun vk wq => ∃ j : Nat, vk = .int .i64 j ∧ j ≤ n ∧ Below V5.heap.size V5 wq) (fun vk _ => n - (intOf vk).toNat)
        case atStart => exact ⟨0, rfl, by omega, Below.refl _ _⟩
        case round =>
          obtain ⟨j, rfl, hjn, hbz⟩ := hrel
          have hD6 := hD5.below hbz
          have hG6 := hG5.on hbz
          by_cases hltj : j < n
          · have hlzj : (j : Int) < (n : Int) := by omega
            have hR6 := hR5.below hbz
            have hokj := hD6.ok
            have kx := dRead hD6 (j : Int)
            have hbzs := hbz.size
            have Hz := Lib.hid hbz
            clear hbz
            go_wp2_with (first
              | ((with_reducible refine kx.mono ?_); rintro e y1 ⟨A1, q1, rfl, o1, hb⟩; have q0 := (hG6.on hb).c0; have q1' := (hG6.on hb).c1; have q2 := (hG6.on hb).c2; have q3 := (hG6.on hb).c3; have hR7 := hR6.below hb; have hz1 := Lib.hid (Hz.out.trans (hb.mono hbzs)); have hzs1 := hb.size; clear hb kx)
              | ((with_reducible refine (kR _ hR7 hokj (j : Int)).mono ?_); rintro e y2 ⟨rfl, hb⟩; obtain ⟨A2, c2, e2, hrd⟩ := Rd.own o1; cases e2; have hcv := (hrd.below hb).convP; have hz2 := hz1.out.trans (hb.mono (Nat.le_trans hbzs hzs1)); clear hb hz1))
            go_roundw
            case rel => exact ⟨j + 1, by simp, by omega, hz2⟩
            case measure => simp [intOf]; omega
          · have q0 := hG6.c0
            have q1 := hG6.c1
            have q2 := hG6.c2
            have q3 := hG6.c3
            have hb6 := b5.trans (hbz.mono hbs5)
            have hR6 := hR5.below hbz
            go_wp2_with fail
            go_quiet (first | (go_at_call 23; exact Calls.quiet_of_same (dead_s (hD6.drewN _))) | (go_at_call 18; exact Calls.quiet_of_same (waiting_s (hD6.drewN _))) | (go_at_call 24; exact Calls.quiet_of_same (kL _ (hD6.drewN _))))
            go_wp2
            exact ⟨⟨k + 1, _, _, s5, _, _, _, _, rfl, rfl, by omega, hD6.drewN nq, hS5, hR6.drewN nq, (show D4 (wr.drewN nq) g _ _ _ _ from hG6), hkn5, hw5, ⟨hb6.os, hb6.tape, hb6.output, hb6.size, hb6.block⟩⟩, by simp [intOf]; omega⟩
theorem devicePlays_walk (x0 : Int) (A1 : Option Addr) (c1 : Nat) (l1 : List Ac) (w : World) (f0 : (Lit.int .u8 x0).wf = true) (r1 : Rd w w.heap.size 4 A1 l1.length c1 (l1.flatMap acCells)) (f1 : ∀ a ∈ l1, AcOk w a) :
    Calls Try.prog 3 #[.int .u8 x0, .slice A1 l1.length c1] w fun e w' => e = .returned (.bool true) ∧ Below w.heap.size w w' := plays_walk w x0 (wf_u8 f0) r1 f1
end Go.Proofs.Ytiehnimkjneonaa
