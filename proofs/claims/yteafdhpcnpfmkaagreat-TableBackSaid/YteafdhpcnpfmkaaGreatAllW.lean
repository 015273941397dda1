/- Layer 6: All, called: a text's tokens, or the error and its place, are the document's. Conditions: the text is a string of Go's. -/
import Derived.Test.YteafdhpcnpfmkaaGreatAll
namespace Go.Proofs.YteafdhpcnpfmkaaGreat
open Go.RowKit Go.ChangeMaps

/-- One act, whichever it is, as a contract for each of the two outcomes. -/
theorem Stepped.ok {B g : Nat} {s : ByteArray} {k : Nat} {l : List Tk} {w : World} {e : Ending} {w' : World} (h : Stepped B g s k l w e w') (h3 : kd (cutB s k) < 3) :
    e = .returned (.int .i64 (plc s (k + ln (cutB s k)) : Nat)) ∧ Kp g B w w' ∧ Sc B w' g s (l ++ stepT (cutB s k) (plc s k)) 0 := by
  rcases h with ⟨a, ⟨_, b, c⟩ | ⟨b, _⟩⟩
  · exact ⟨b, a, c⟩
  · omega
theorem Stepped.bad {B g : Nat} {s : ByteArray} {k : Nat} {l : List Tk} {w : World} {e : Ending} {w' : World} (h : Stepped B g s k l w e w') (h3 : 3 ≤ kd (cutB s k)) :
    e = .returned (.int .i64 (plc s k : Nat)) ∧ Kp g B w w' ∧ Sc B w' g s l (kd (cutB s k)) := by
  rcases h with ⟨a, ⟨b, _⟩ | ⟨_, b, c⟩⟩
  · omega
  · exact ⟨b, a, c⟩
theorem Sc.c2 {B g : Nat} {s : ByteArray} {l : List Tk} {e : Nat} {w : World} (h : Sc B w g s l e) : w.cell? ⟨g, 2, none⟩ = some (.int .i64 e) := by obtain ⟨v, h⟩ := h; exact h.c2

set_option maxHeartbeats 4000000 in
set_option maxRecDepth 100000 in
theorem all_any (s : ByteArray) (w : World) (f0 : s.size ≤ maxLen) :
    Calls Tryz.prog 45 #[.string s] w (AllPost s w) := by
  unfold maxLen at f0
  by_cases hlong : 2048 < s.size
  · have hA : allS s = ([], 13, 0) := by unfold allS; rw [if_pos hlong]
    have HX : Hid (AllPost s w (.returned (.tuple #[.slice none 0 0, .int .i64 13, .int .i64 0])) w) := Lib.hid (AllPost.empty hA (Below.refl _ _))
    clear hA
    go_enter Tryz.func45, Tryz.ntmps45
    go_wp2
    go_ret3
    exact HX.out
  have kb : ∀ W, _ := fun W => broken_at s W (by omega)
  have hs : s.size ≤ 2048 := by omega
  clear f0
  by_cases hbad : plc s (badN s) < s.size
  · have hA : allS s = ([], 11, plc s (badN s)) := by unfold allS; rw [if_neg hlong, if_pos hbad]
    have hz : badZ s = (plc s (badN s) : Int) := if_pos hbad
    rw [hz] at kb
    have HX : ∀ W, Below w.heap.size w W → Hid (AllPost s w (.returned (.tuple #[.slice none 0 0, .int .i64 11, .int .i64 (plc s (badN s) : Nat)])) W) := fun W hb => Lib.hid (AllPost.empty hA hb)
    clear hA hz hbad
    generalize plc s (badN s) = p at *
    go_enter Tryz.func45, Tryz.ntmps45
    go_wp2_with ((with_reducible refine (kb _).mono ?_); rintro e w1 ⟨rfl, hb1⟩)
    go_ret3
    exact (HX _ hb1).out
  have hv := badN_valid.2 hbad
  have hz : badZ s = -1 := if_neg hbad
  rw [hz] at kb
  have HA : Hid (allS s = if (scan s 0).2.1 = 0 then scan s 0 else ([], (scan s 0).2)) := Lib.hid (by unfold allS; rw [if_neg hlong, if_neg hbad])
  clear hz hbad hlong
  go_enter Tryz.func45, Tryz.ntmps45
  go_wp2_with (first
    | ((with_reducible refine (kb _).mono ?_); rintro e w1 ⟨rfl, hb1⟩)
    | ((refine (acts_any _ w1.heap.size).mono ?_); rintro e w2 ⟨rfl, hm2, hb2⟩))
  have hg1 : (w1.alloc (.cells #[.string s, .slice none 0 0, .int .i64 0] 175)).heap.size = w1.heap.size + 1 := by simp
  have hgc : w2.heap[w1.heap.size]? = some (.cells #[.string s, .slice none 0 0, .int .i64 0] 175 (0, 0)) := by
    rw [hb2.block _ (by omega)]; exact heap_alloc_new w1 _
  have hws : w1.heap.size + 1 < w2.heap.size := by rw [← hg1]; exact (Array.getElem?_eq_some_iff.1 hm2).1
  rw [hg1] at hm2
  have hbw : Below w.heap.size w w2 := hb1.trans (((Below.refl _ w1).alloc hb1.size _).trans (hb2.mono (by have := hb1.size; omega)))
  have hw1 := hb1.size
  have hit := it_start w2 s
  have hbi := it_below w2 s
  have hsi : (w2.iter s 0).heap.size = w2.heap.size + 1 := by simp [World.iter]
  have HS : Hid (Al w w1.heap.size (w1.heap.size + 1) w2.heap.size (w2.heap.size + 1) s (w2.iter s 0) 0 0 []) := Lib.hid
    ⟨Nat.le_refl _, Nat.zero_le _, hit, (hbi.block _ hws).trans hm2,
     ⟨.slice none 0 0, (hbi.block _ (by omega)).trans hgc, World.ownsRow_nil _ _ _ _, by omega⟩,
     hbw.trans (hbi.mono (by omega)), by omega, by rw [cutB_zero]; rfl, by rw [cutB_zero]; rfl, Nat.le_refl _, hw1, by omega, by omega, by omega, by omega, by omega, by omega⟩
  clear hgc hws hm2 hbw hw1 hit hbi hsi hb1 hb2 hg1
  generalize w1.heap.size = g at *
  go_loopw [8] (fun nx wr => ∃ k j l, nx = .int .i64 (plc s j : Nat) ∧ Al w g (g + 1) w2.heap.size (w2.heap.size + 1) s wr k j l) (fun _ wr => s.size - wr.iterPos w2.heap.size)
  case atStart => exact ⟨0, 0, [], rfl, HS.out⟩
  case round =>
    clear HS
    obtain ⟨k, j, l, rfl, hal⟩ := hrel
    have HAl := Lib.hid hal
    have hit := hal.it
    have hlk := plc_le s k
    have hlj := plc_le s j
    have hip : wr.iterPos w2.heap.size = plc s k := by simp only [World.iterPos, hit]
    by_cases h : plc s k < s.size
    · have hk2 := lt_cnt.2 h
      have hw := wd_pos h
      have hps := plc_succ h
      have hnx : ∀ ty, _ := fun ty => Lib.run_next_any_at (P := Tryz.prog) wr w2.heap.size s (plc s k) ty hit h
      by_cases hkj : k < j
      · have hpj : plc s k < plc s j := Nat.lt_of_lt_of_le (plc_lt_succ h) (plc_mono s hkj)
        have HN := Lib.hid (hal.skip h hkj)
        have hdj : (plc s k : Int) < (plc s j : Nat) := by omega
        clear hal hit hkj hip
        go_wp2
        go_roundw
        case rel => exact ⟨k + 1, j, l, rfl, HN.out⟩
        case measure =>
          have e1 : wr.iterPos w2.heap.size = plc s k := by simp only [World.iterPos, HAl.out.it]
          have e2 : (wr.iterAt w2.heap.size s (plc s k + (Utf8.decode s (plc s k)).2)).iterPos w2.heap.size = plc s (k + 1) := by simp only [World.iterPos, HN.out.it]
          rw [e1, e2, hps]; omega
      · obtain rfl : j = k := by have := hal.kj; omega
        have hdj : ¬ ((plc s j : Int) < (plc s j : Nat)) := by omega
        have hmp := hal.mp2 (plc s j + (Utf8.decode s (plc s j)).2)
        have hsc := hal.sc2 (plc s j + (Utf8.decode s (plc s j)).2)
        have hbig := hal.big2 (plc s j + (Utf8.decode s (plc s j)).2)
        have HST := fun w3 => Lib.hid (hal.step (w3 := w3) h)
        have HER := Lib.hid (hal.scan_err h)
        have HB2 := Lib.hid (hal.bel2 (plc s j + (Utf8.decode s (plc s j)).2))
        have hll : l.length < 1000000 := by have := hal.few; have := hal.jc; have := cnt_le s; omega
        have hrn : ((Utf8.decode s (plc s j)).1 : Int) = (rn s (plc s j) : Nat) := rfl
        have hr128 : bt s (plc s j) < 128 → rn s (plc s j) = bt s (plc s j) := fun hh => (dec_low h hh).1
        have hr128' : 128 ≤ bt s (plc s j) → 128 ≤ rn s (plc s j) := rn_high h
        have HLO : Hid (w.heap.size ≤ g ∧ w.heap.size ≤ w2.heap.size) := Lib.hid ⟨hal.lo, hal.li⟩
        obtain ⟨W2, hW2⟩ : ∃ W2, W2 = wr.iterAt w2.heap.size s (plc s j + (Utf8.decode s (plc s j)).2) := ⟨_, rfl⟩
        rw [← hW2] at hnx hmp hsc hbig HB2
        simp only [← hW2] at HST
        rw [hrn] at hnx
        have HIP := Lib.hid hip
        clear hal hit hkj hip hW2 hrn HAl
        have ksB : ∀ hcl : blankB (bt s (plc s j)) = true, _ := fun hcl => blank_any hsc hs h hcl (some ⟨g, 0, none⟩)
        have ksS : ∀ hcl : signB (bt s (plc s j)) = true, _ := fun hcl => sign_any hsc hbig hs hll h hcl
        have ksN : ∀ hcl : bt s (plc s j) = 47, _ := fun hcl => note_any hsc hbig hs h hcl
        have ksW : ∀ (h1 : blankB (bt s (plc s j)) = false) (h2 : signB (bt s (plc s j)) = false) (h3 : bt s (plc s j) ≠ 47), _ := fun h1 h2 h3 => word_any hsc hbig hs hv hll h h1 h2 h3
        by_cases cB : blankB (bt s (plc s j)) = true
        · have hrb : rn s (plc s j) = bt s (plc s j) := hr128 (by have := blankB_iff.1 cB; omega)
          have hlook := look_blank W2 hmp (r := rn s (plc s j)) (by rw [hrb]; exact cB)
          have ks := ksB cB
          clear ksB ksS ksN ksW hmp hr128 hr128' hrb
          generalize rn s (plc s j) = z at *
          by_cases hkd : kd (cutB s j) < 3
          · have hz3 : (((0 : Nat) : Int) == 0) = true := rfl
            go_wp2_with ((with_reducible refine ks.mono ?_); intro e w3 hst; obtain ⟨rfl, hkp, hsc3⟩ := hst.ok hkd; have c23 := hsc3.c2)
            go_roundw
            case rel => exact ⟨j + 1, j + ln (cutB s j), l ++ stepT (cutB s j) (plc s j), rfl, (HST w3).out hkd hkp hsc3⟩
            case measure =>
              have e2 : w3.iterPos w2.heap.size = plc s (j + 1) := by simp only [World.iterPos, ((HST w3).out hkd hkp hsc3).it]
              rw [HIP.out, e2, hps]; omega
          · replace hkd : 3 ≤ kd (cutB s j) := by omega
            have hz3 : (((kd (cutB s j) : Nat) : Int) == 0) = false := by simp; omega
            go_wp2_with ((with_reducible refine ks.mono ?_); intro e w3 hst; obtain ⟨rfl, hkp, hsc3⟩ := hst.bad hkd; have c23 := hsc3.c2)
            go_quiet (fail)
            go_wp2
            go_ret3
            have hE := HER.out hkd
            have hA := HA.out
            rw [if_neg (by rw [hE]; dsimp only; omega), hE] at hA
            refine AllPost.empty hA (HB2.out.trans ?_)
            exact Below.trans (hkp.below (Nat.le_succ_of_le HLO.out.2) HLO.out.1) ⟨rfl, rfl, rfl, Nat.le_refl _, fun _ _ => rfl⟩
        by_cases cS : signB (bt s (plc s j)) = true
        · have hrb : rn s (plc s j) = bt s (plc s j) := hr128 (by have := signB_iff.1 cS; omega)
          have hlook := look_sign W2 hmp (r := rn s (plc s j)) (by rw [hrb]; exact cS)
          have ks := ksS cS
          clear ksB ksS ksN ksW hmp hr128 hr128' hrb
          generalize rn s (plc s j) = z at *
          by_cases hkd : kd (cutB s j) < 3
          · have hz3 : (((0 : Nat) : Int) == 0) = true := rfl
            go_wp2_with ((with_reducible refine ks.mono ?_); intro e w3 hst; obtain ⟨rfl, hkp, hsc3⟩ := hst.ok hkd; have c23 := hsc3.c2)
            go_roundw
            case rel => exact ⟨j + 1, j + ln (cutB s j), l ++ stepT (cutB s j) (plc s j), rfl, (HST w3).out hkd hkp hsc3⟩
            case measure =>
              have e2 : w3.iterPos w2.heap.size = plc s (j + 1) := by simp only [World.iterPos, ((HST w3).out hkd hkp hsc3).it]
              rw [HIP.out, e2, hps]; omega
          · replace hkd : 3 ≤ kd (cutB s j) := by omega
            have hz3 : (((kd (cutB s j) : Nat) : Int) == 0) = false := by simp; omega
            go_wp2_with ((with_reducible refine ks.mono ?_); intro e w3 hst; obtain ⟨rfl, hkp, hsc3⟩ := hst.bad hkd; have c23 := hsc3.c2)
            go_quiet (fail)
            go_wp2
            go_ret3
            have hE := HER.out hkd
            have hA := HA.out
            rw [if_neg (by rw [hE]; dsimp only; omega), hE] at hA
            refine AllPost.empty hA (HB2.out.trans ?_)
            exact Below.trans (hkp.below (Nat.le_succ_of_le HLO.out.2) HLO.out.1) ⟨rfl, rfl, rfl, Nat.le_refl _, fun _ _ => rfl⟩
        by_cases cN : bt s (plc s j) = 47
        · have hrb : rn s (plc s j) = 47 := (hr128 (by omega)).trans cN
          have hlook := look_f W2 hmp (rn s (plc s j)) 119 (by rw [hrb]; decide +kernel)
          have ks := ksN cN
          clear ksB ksS ksN ksW hmp hr128 hr128' hrb
          generalize rn s (plc s j) = z at *
          by_cases hkd : kd (cutB s j) < 3
          · have hz3 : (((0 : Nat) : Int) == 0) = true := rfl
            go_wp2_with ((with_reducible refine ks.mono ?_); intro e w3 hst; obtain ⟨rfl, hkp, hsc3⟩ := hst.ok hkd; have c23 := hsc3.c2)
            go_roundw
            case rel => exact ⟨j + 1, j + ln (cutB s j), l ++ stepT (cutB s j) (plc s j), rfl, (HST w3).out hkd hkp hsc3⟩
            case measure =>
              have e2 : w3.iterPos w2.heap.size = plc s (j + 1) := by simp only [World.iterPos, ((HST w3).out hkd hkp hsc3).it]
              rw [HIP.out, e2, hps]; omega
          · replace hkd : 3 ≤ kd (cutB s j) := by omega
            have hz3 : (((kd (cutB s j) : Nat) : Int) == 0) = false := by simp; omega
            go_wp2_with ((with_reducible refine ks.mono ?_); intro e w3 hst; obtain ⟨rfl, hkp, hsc3⟩ := hst.bad hkd; have c23 := hsc3.c2)
            go_quiet (fail)
            go_wp2
            go_ret3
            have hE := HER.out hkd
            have hA := HA.out
            rw [if_neg (by rw [hE]; dsimp only; omega), hE] at hA
            refine AllPost.empty hA (HB2.out.trans ?_)
            exact Below.trans (hkp.below (Nat.le_succ_of_le HLO.out.2) HLO.out.1) ⟨rfl, rfl, rfl, Nat.le_refl _, fun _ _ => rfl⟩
        rw [Bool.not_eq_true] at cB cS
        · have hro : rn s (plc s j) ≠ 47 ∧ signB (rn s (plc s j)) = false ∧ blankB (rn s (plc s j)) = false := by
            by_cases hlo : bt s (plc s j) < 128
            · rw [hr128 hlo]; exact ⟨cN, cS, cB⟩
            · have := hr128' (by omega)
              refine ⟨by omega, ?_, ?_⟩
              · rw [Bool.eq_false_iff]; intro e; have := signB_iff.1 e; omega
              · rw [Bool.eq_false_iff]; intro e; have := blankB_iff.1 e; omega
          have hlook := look_none W2 hmp hro.1 hro.2.1 hro.2.2
          have ks := ksW cB cS cN
          clear ksB ksS ksN ksW hmp hr128 hr128' hro
          generalize rn s (plc s j) = z at *
          by_cases hkd : kd (cutB s j) < 3
          · have hz3 : (((0 : Nat) : Int) == 0) = true := rfl
            go_wp2_with ((with_reducible refine ks.mono ?_); intro e w3 hst; obtain ⟨rfl, hkp, hsc3⟩ := hst.ok hkd; have c23 := hsc3.c2)
            go_roundw
            case rel => exact ⟨j + 1, j + ln (cutB s j), l ++ stepT (cutB s j) (plc s j), rfl, (HST w3).out hkd hkp hsc3⟩
            case measure =>
              have e2 : w3.iterPos w2.heap.size = plc s (j + 1) := by simp only [World.iterPos, ((HST w3).out hkd hkp hsc3).it]
              rw [HIP.out, e2, hps]; omega
          · replace hkd : 3 ≤ kd (cutB s j) := by omega
            have hz3 : (((kd (cutB s j) : Nat) : Int) == 0) = false := by simp; omega
            go_wp2_with ((with_reducible refine ks.mono ?_); intro e w3 hst; obtain ⟨rfl, hkp, hsc3⟩ := hst.bad hkd; have c23 := hsc3.c2)
            go_quiet (fail)
            go_wp2
            go_ret3
            have hE := HER.out hkd
            have hA := HA.out
            rw [if_neg (by rw [hE]; dsimp only; omega), hE] at hA
            refine AllPost.empty hA (HB2.out.trans ?_)
            exact Below.trans (hkp.below (Nat.le_succ_of_le HLO.out.2) HLO.out.1) ⟨rfl, rfl, rfl, Nat.le_refl _, fun _ _ => rfl⟩
    · have hnx : ∀ ty, _ := fun ty => Lib.run_next_end_at (P := Tryz.prog) wr w2.heap.size s (plc s k) ty hit h
      obtain ⟨hpj, hcode, htoks⟩ := hal.fin h
      have hl6 : l.length < 1000000 := by have := hal.few; have := hal.jc; have := cnt_le s; omega
      have ka : ∀ W, W = wr → _ := fun W (e : W = wr) => add_any (k := 3) (t := ⟨#[]⟩) (p := s.size) (w := W) (e ▸ hal.sc) (e ▸ hal.big) hl6 (by omega) (by show 0 ≤ _; omega)
      have ka := ka wr rfl
      have HB : Hid (Below w.heap.size w wr) := Lib.hid hal.bel
      have hlo := hal.lo
      have hli := hal.li
      have hA := HA.out
      rw [if_pos (by rw [hcode])] at hA
      have HC := Lib.hid hcode
      have HT := Lib.hid htoks
      have HF := Lib.hid hA
      clear hal hit hip hcode htoks hA HA
      go_wp2_with ((refine ka.mono ?_); rintro e w3 ⟨rfl, ⟨v, hsc⟩, hkp⟩; have c1 := hsc.c1)
      obtain ⟨A3, c3, rfl, hr3⟩ := Rd.own hsc.row
      have Hr3 := Lib.hid hr3
      have HP := Lib.hid (HB.out.trans (hkp.below (by omega) hlo))
      clear hr3 hsc hkp
      go_wp2
      go_ret3
      have hF := HF.out
      have hT := HT.out
      refine ⟨⟨A3, c3, ?_, ?_⟩, HP.out⟩
      · rw [hF, HC.out, hT]; rfl
      · unfold Toks
        rw [hF, hT]; exact Hr3.out
end Go.Proofs.YteafdhpcnpfmkaaGreat
