/- Layer 13: two rows the same; the document's example. Conditions: none. -/
import Derived.Test.YtampggkjlpbbmaaAppW
namespace Go.Proofs.Ytampggkjlpbbmaa
open Go.RowKit

/-- Are two rows the same? -/
def eqL (u v : List ByteArray) : Bool := decide (u = v)
theorem eqL_iff {u v : List ByteArray} : eqL u v = true ↔ u = v := decide_eq_true_iff
theorem eqL_self (u : List ByteArray) : eqL u u = true := eqL_iff.2 rfl
theorem eqL_len {u v : List ByteArray} (h : u.length ≠ v.length) : eqL u v = false := decide_eq_false fun e => h (by rw [e])
theorem eqL_ne {u v : List ByteArray} {i : Nat} {a b : ByteArray} (ha : u[i]? = some a) (hb : v[i]? = some b) (h : a ≠ b) : eqL u v = false := decide_eq_false fun e => h (by subst e; rw [ha] at hb; exact Option.some.inj hb)
theorem eqL_all {u v : List ByteArray} (hl : u.length = v.length) (h : ∀ (j : Nat), j < u.length → u[j]? = v[j]?) : eqL u v = true := eqL_iff.2 (List.ext_getElem? fun j => by
  by_cases q : j < u.length
  · exact h j q
  · rw [List.getElem?_eq_none (by omega), List.getElem?_eq_none (by omega)])

set_option maxRecDepth 100000 in
set_option maxHeartbeats 1000000 in
theorem same_any {w : World} {A1 A2 : Option Addr} {c1 c2 : Nat} {u v : List ByteArray} (h1 : Rd w w.heap.size 1 A1 u.length c1 (ks u)) (h2 : Rd w w.heap.size 1 A2 v.length c2 (ks v)) (hl : u.length ≤ 10000000) :
    Calls Try.prog 14 #[.slice A1 u.length c1, .slice A2 v.length c2] w fun e w' => e = .returned (.bool (eqL u v)) ∧ ∃ q, w' = w.drewN q := by
  by_cases hlen : u.length = v.length
  · have dl : ((u.length : Int) == (v.length : Int)) = true := beq_iff_eq.2 (by omega)
    have dl2 : ((u.length : Int) != (v.length : Int)) = false := by rw [bne, dl]; rfl
    have hlH := Lib.hid hlen
    obtain ⟨R, hR⟩ : ∃ R, eqL u v = R := ⟨_, rfl⟩
    rw [hR]
    replace hR := Lib.hid hR
    rw [← hlen] at h2 ⊢
    clear hlen dl dl2
    go_enter Try.func14, Try.ntmps14
    go_wp2_with fail
    go_loopw [5] (fun vi wx => ∃ i q : Nat, vi = .int .i64 i ∧ i ≤ u.length ∧ Hid (wx = w.drewN q) ∧ Hid (∀ (j : Nat), j < i → u[j]? = v[j]?)) (fun vi _ => u.length - (intOf vi).toNat)
    case atStart => exact ⟨0, 0, rfl, Nat.zero_le _, Lib.hid rfl, Lib.hid fun j hj => by omega⟩
    case round =>
      obtain ⟨i, q, rfl, hi, hw, ha⟩ := hrel
      by_cases hil : i < u.length
      · have di : (i : Int) < (u.length : Int) := by omega
        obtain ⟨a, hx⟩ : ∃ a, u[i]? = some a := ⟨_, List.getElem?_eq_getElem hil⟩
        obtain ⟨b, hy⟩ : ∃ b, v[i]? = some b := ⟨_, List.getElem?_eq_getElem (by rw [← hlH.out]; exact hil)⟩
        obtain ⟨b1, o1, rfl, _, g1⟩ := rd_key h1 hx
        obtain ⟨b2, o2, rfl, _, g2⟩ := rd_key h2 hy
        have e1 : wr.cell? ⟨b1, o1 + i, none⟩ = some (.string a) := by rw [hw.out]; exact g1
        have e2 : wr.cell? ⟨b2, o2 + i, none⟩ = some (.string b) := by rw [hw.out]; exact g2
        by_cases hab : a = b
        · have ha2 : Hid (∀ (j : Nat), j < i + 1 → u[j]? = v[j]?) := Lib.hid fun j hj => by
            by_cases e : j = i
            · subst e; rw [hx, hy, hab]
            · exact ha.out j (by omega)
          have dd : (a.toList == b.toList) = true := by rw [tl_eq, decide_eq_true hab]
          clear hx hy ha hab g1 g2
          go_wp2_with fail
          go_quiet (fail)
          go_wp2_with fail
          exact ⟨⟨i + 1, q + nq, by go_num, by omega, Lib.hid (by rw [hw.out, World.drewN_drewN]), ha2⟩, by simp [intOf]; omega⟩
        · have hR2 : R = false := by rw [← hR.out]; exact eqL_ne hx hy hab
          subst hR2
          have dd : (a.toList == b.toList) = false := by rw [tl_eq, decide_eq_false hab]
          clear hx hy ha hab g1 g2
          go_wp2_with fail
          go_quiet (fail)
          go_wp2_with fail
          go_ret
          exact ⟨rfl, q + nq, by rw [hw.out, World.drewN_drewN]⟩
      · obtain rfl : i = u.length := by omega
        have di : ¬ (((u.length : Nat) : Int) < (u.length : Int)) := by omega
        have hR2 : R = true := by rw [← hR.out]; exact eqL_all hlH.out ha.out
        subst hR2
        clear ha
        go_wp2_with fail
        go_ret
        exact ⟨rfl, q, hw.out⟩
  · have dl2 : ((u.length : Int) != (v.length : Int)) = true := by rw [bne, beq_eq_false_iff_ne.2 (by omega)]; rfl
    rw [eqL_len hlen]
    clear h1 h2
    go_enter Try.func14, Try.ntmps14
    go_wp2_with fail
    go_ret
    exact ⟨rfl, 0, rfl⟩

/-! the document's example -/
abbrev ka : ByteArray := ⟨#[97]⟩
abbrev kb : ByteArray := ⟨#[98]⟩
abbrev kc : ByteArray := ⟨#[99]⟩
theorem lt_ab : kl ka kb = true := by simp [kl, ka, kb, ByteArray.toList_eq, Op.bytesLess]
theorem lt_bc : kl kb kc = true := by simp [kl, kb, kc, ByteArray.toList_eq, Op.bytesLess]
theorem lt_ac : kl ka kc = true := kl_trans lt_ab lt_bc
theorem rises_ab : Rises [ka, kb] := by simp [Rises, lt_ab]
theorem app_one : appS [ka, kb] [(ka, true)] [(kb, false), (kc, true)] = ([ka, kc], 0, 0) := by
  have h1 : hasK [ka, kb] ka = true := hasK_iff.2 (by simp)
  have h2 : hasK [ka, kb] kb = true := hasK_iff.2 (by simp)
  have h3 : outS [ka, kb] kb = [ka] := by simp [outS, kl_ne lt_ab]
  have h4 : hasK [ka] kc = false := hasK_not.2 (by simp)
  simp [appS, preS, h1, chgS, h2, h3, h4, putS, lt_ac]
theorem app_two : appS [ka, kb] [(ka, true)] [(kb, true)] = ([], 32, 1) := by
  have h1 : hasK [ka, kb] ka = true := hasK_iff.2 (by simp)
  have h2 : hasK [ka, kb] kb = true := hasK_iff.2 (by simp)
  simp [appS, preS, h1, chgS, h2]
theorem dif_one : difS [ka, kb] [ka, kc] = [(kb, false), (kc, true)] := by
  rw [difS_both (kl_irr _) (kl_irr _), difS_left (fun b h => (by cases h; exact lt_bc)), difS_right (fun a h => (by cases h)), difS_nil]
theorem small_abc : ka.size ≤ maxLen ∧ kb.size ≤ maxLen ∧ kc.size ≤ maxLen := ⟨by decide, by decide, by decide⟩

theorem of_is {w : World} {A : Option Addr} {c : Nat} {l s : List ByteArray} (h : Rd w w.heap.size 1 A l.length c (ks l)) (hl : l.length ≤ 1000000) (hs : Rises s) (hm : ∀ k, k ∈ s ↔ k ∈ l) :
    Calls Try.prog 9 #[.slice A l.length c] w fun e w' => ∃ A' c', e = .returned (.slice A' s.length c') ∧ Rd w' w'.heap.size 1 A' s.length c' (ks s) ∧ Below w.heap.size w w' :=
  (of_any h hl).mono fun e w' ⟨A', c', s', he, hs', hm', hr, hb⟩ => by
    obtain rfl : s' = s := rises_eq hs' hs fun k => (hm' k).trans (hm k).symm
    exact ⟨A', c', he, hr, hb⟩

theorem ex_mem (k : ByteArray) : k ∈ [ka, kb] ↔ k ∈ [kb, ka, kb] := by
  simp only [List.mem_cons, List.not_mem_nil, or_false]
  constructor
  · rintro (h | h)
    · exact .inr (.inl h)
    · exact .inl h
  · rintro (h | h | h)
    · exact .inr h
    · exact .inl h
    · exact .inr h
theorem ex_of (W : World) : Calls Try.prog 9 #[.slice (some ⟨W.heap.size, 0, none⟩) 3 3] (W.alloc (.cells #[.string kb, .string ka, .string kb] 9)) fun e w' => ∃ A' c', e = .returned (.slice A' 2 c') ∧ Rd w' w'.heap.size 1 A' 2 c' (ks [ka, kb]) ∧ Below W.heap.size W w' :=
  (of_is (l := [kb, ka, kb]) (Rd.litX W #[.string kb, .string ka, .string kb] 9 3 1 (ks [kb, ka, kb]) rfl rfl (by decide)) (by decide) rises_ab ex_mem).mono
    fun e w' ⟨A', c', he, hr, hb⟩ => ⟨A', c', he, hr, bthen (bnew W _) (by simp) hb⟩
theorem ex_app {W : World} {A : Option Addr} {c : Nat} (h : Rd W W.heap.size 1 A 2 c (ks [ka, kb])) (g : Nat) (hg : g = W.heap.size + 1) : Calls Try.prog 12 #[.slice A 2 c, .slice (some ⟨W.heap.size, 0, none⟩) 1 1, .slice (some ⟨g, 0, none⟩) 2 2]
    ((W.alloc (.cells #[.string ka, .bool true] 46)).alloc (.cells #[.string kb, .bool false, .string kc, .bool true] 40)) fun e w' =>
      ∃ A' c', e = .returned (.tuple #[.slice A' 2 c', .int .i64 0, .int .i64 0]) ∧ Rd w' w'.heap.size 1 A' 2 c' (ks [ka, kc]) ∧ Below W.heap.size W w' := by
  subst hg
  have hb := (bnew W (.cells #[.string ka, .bool true] 46)).alloc (by simp) (.cells #[.string kb, .bool false, .string kc, .bool true] 40)
  have h2 := Rd.litX (W.alloc (.cells #[.string ka, .bool true] 46)) #[.string kb, .bool false, .string kc, .bool true] 40 2 2 (pcs [(kb, false), (kc, true)]) rfl rfl (by decide)
  have h1 := (Rd.litX W #[.string ka, .bool true] 46 1 2 (pcs [(ka, true)]) rfl rfl (by decide)).up (bnew _ (.cells #[.string kb, .bool false, .string kc, .bool true] 40))
  simp only [World.size_alloc] at h2
  refine (apply_any (s := [ka, kb]) (p := [(ka, true)]) (ch := [(kb, false), (kc, true)]) (h.up hb) rises_ab (fun k hk => ?_) (by decide) h1 (by decide) (by simpa using h2) (by decide) (fun x hx => ?_)).mono ?_
  · simp at hk; rcases hk with rfl | rfl
    · exact small_abc.1
    · exact small_abc.2.1
  · simp at hx; rcases hx with rfl | rfl
    · exact small_abc.2.1
    · exact small_abc.2.2
  · rintro e w' ⟨A', c', he, hr, hb2⟩
    rw [app_one] at he hr
    exact ⟨A', c', he, hr, bthen hb (by simp; omega) hb2⟩
theorem ex_app2 {W : World} {A : Option Addr} {c : Nat} (h : Rd W W.heap.size 1 A 2 c (ks [ka, kb])) (g : Nat) (hg : g = W.heap.size + 1) : Calls Try.prog 12 #[.slice A 2 c, .slice (some ⟨W.heap.size, 0, none⟩) 1 1, .slice (some ⟨g, 0, none⟩) 1 1]
    ((W.alloc (.cells #[.string ka, .bool true] 46)).alloc (.cells #[.string kb, .bool true] 40)) fun e w' =>
      ∃ A' c', e = .returned (.tuple #[.slice A' 0 c', .int .i64 32, .int .i64 1]) ∧ Below W.heap.size W w' := by
  subst hg
  have hb := (bnew W (.cells #[.string ka, .bool true] 46)).alloc (by simp) (.cells #[.string kb, .bool true] 40)
  have h2 := Rd.litX (W.alloc (.cells #[.string ka, .bool true] 46)) #[.string kb, .bool true] 40 1 2 (pcs [(kb, true)]) rfl rfl (by decide)
  have h1 := (Rd.litX W #[.string ka, .bool true] 46 1 2 (pcs [(ka, true)]) rfl rfl (by decide)).up (bnew _ (.cells #[.string kb, .bool true] 40))
  simp only [World.size_alloc] at h2
  refine (apply_any (s := [ka, kb]) (p := [(ka, true)]) (ch := [(kb, true)]) (h.up hb) rises_ab (fun k hk => ?_) (by decide) h1 (by decide) (by simpa using h2) (by decide) (fun x hx => ?_)).mono ?_
  · simp at hk; rcases hk with rfl | rfl
    · exact small_abc.1
    · exact small_abc.2.1
  · simp at hx; subst hx
    exact small_abc.2.1
  · rintro e w' ⟨A', c', he, hr, hb2⟩
    rw [app_two] at he hr
    exact ⟨A', c', he, bthen hb (by simp; omega) hb2⟩
theorem ex_dif {W : World} {A B : Option Addr} {c d : Nat} (h : Rd W W.heap.size 1 A 2 c (ks [ka, kb])) (k : Rd W W.heap.size 1 B 2 d (ks [ka, kc])) : Calls Try.prog 17 #[.slice A 2 c, .slice B 2 d] W fun e w' =>
      ∃ A' c', e = .returned (.slice A' 2 c') ∧ Rd w' w'.heap.size 2 A' 2 c' (pcs [(kb, false), (kc, true)]) ∧ Below W.heap.size W w' := by
  have := diff_any (s := [ka, kb]) (t := [ka, kc]) h k (by decide) (by decide)
  rw [dif_one] at this
  exact this
theorem ex_same {W : World} {A : Option Addr} {c : Nat} (h : Rd W W.heap.size 1 A 2 c (ks [ka, kc])) : Calls Try.prog 14 #[.slice A 2 c, .slice (some ⟨W.heap.size, 0, none⟩) 2 2] (W.alloc (.cells #[.string ka, .string kc] 9)) fun e w' => e = .returned (.bool true) ∧ Below W.heap.size W w' :=
  (same_any (u := [ka, kc]) (v := [ka, kc]) (h.up (bnew W _)) (Rd.litX W #[.string ka, .string kc] 9 2 1 (ks [ka, kc]) rfl rfl (by decide)) (by decide)).mono
    fun e w' ⟨he, q, hw⟩ => ⟨by rw [he, eqL_self], by rw [hw]; exact (bnew W _).trans (drewN_below _ _ _)⟩

set_option maxRecDepth 100000 in
set_option maxHeartbeats 2000000 in
theorem awake13_any (w : World) : Calls Try.prog 8 #[] w fun e w' => e = .returned (.bool true) ∧ Below w.heap.size w w' := by
  have hb2 : hasK [ka, kb] kb = true := hasK_iff.2 (by simp)
  have hc2 : hasK [ka, kb] kc = false := hasK_not.2 (by simp)
  go_enter Try.func8, Try.ntmps8
  go_upto_region 2 with (go_at_call 9; refine (ex_of _).mono ?_; rintro e w1 ⟨A, c, rfl, hS, hb1⟩)
  have kp := ex_app hS _ rfl
  go_upto_region 3 with (go_at_call 12; refine kp.mono ?_; rintro e w2 ⟨A2, c2, rfl, hT, hbb⟩)
  have hS2 := hS.up hbb
  have hb2' := bthen hb1 hb1.size hbb
  have kp2 := ex_app2 hS2 _ rfl
  clear kp hS hb1 hbb
  go_upto_region 4 with (go_at_call 12; refine kp2.mono ?_; rintro e w3 ⟨A3, c3, rfl, hbb⟩)
  have hS3 := hS2.up hbb
  have hT3 := hT.up hbb
  have hb3 := bthen hb2' hb2'.size hbb
  have kd := ex_dif hS3 hT3
  clear kp2 hS2 hT hbb hb2'
  go_upto_region 5 with (go_at_call 17; refine kd.mono ?_; rintro e w4 ⟨A4, c4, rfl, hD, hbb⟩)
  have hS4 := hS3.up hbb
  have hT4 := hT3.up hbb
  have hb4 := bthen hb3 hb3.size hbb
  obtain ⟨b, o, rfl, hlb, g0, g1⟩ := rd_pair hD (i := 1) (p := (kc, true)) rfl
  have hcl : ∀ W, Below w4.heap.size w4 W → W.cell? ⟨b, o + 2, none⟩ = some (.string kc) ∧ W.cell? ⟨b, o + 2 + 1, none⟩ = some (.bool true) := fun W hW => ⟨(hW.cell hlb).trans g0, (hW.cell hlb).trans g1⟩
  have khb : ∀ W, Below w4.heap.size w4 W → Calls Try.prog 15 #[.slice A 2 c, .string kb] W fun e w' => e = .returned (.bool true) ∧ Below w4.heap.size w4 w' := fun W hW => by
    rw [← hb2]
    exact (has_any (hS4.below hW) (n := 2) rfl rises_ab (by decide) kb).mono fun e w' ⟨he, q, hw⟩ => ⟨he, by rw [hw]; exact hW.trans (drewN_below _ _ _)⟩
  have khc : ∀ W, Below w4.heap.size w4 W → Calls Try.prog 15 #[.slice A 2 c, .string kc] W fun e w' => e = .returned (.bool false) ∧ Below w4.heap.size w4 w' := fun W hW => by
    rw [← hc2]
    exact (has_any (hS4.below hW) (n := 2) rfl rises_ab (by decide) kc).mono fun e w' ⟨he, q, hw⟩ => ⟨he, by rw [hw]; exact hW.trans (drewN_below _ _ _)⟩
  have kse : ∀ W, Below w4.heap.size w4 W → Calls Try.prog 14 #[.slice A2 2 c2, .slice (some ⟨W.heap.size, 0, none⟩) 2 2] (W.alloc (.cells #[.string ka, .string kc] 9)) fun e w' => e = .returned (.bool true) ∧ Below w4.heap.size w4 w' := fun W hW =>
    (ex_same (hT4.up hW)).mono fun e w' ⟨he, hw⟩ => ⟨he, bthen hW hW.size hw⟩
  have Hb := Below.refl w4.heap.size w4
  clear kd hS3 hT3 hbb hb3 hD g0 g1 hS4 hT4 hb2 hc2
  go_wp2_with (first
    | (go_at_call 15; refine (khb _ Hb).mono ?_; clear khb; rintro e w5 ⟨rfl, Hb⟩)
    | (go_at_call 15; refine (khc _ Hb).mono ?_; rintro e w6 ⟨rfl, Hb⟩)
    | (go_at_call 14; refine (kse _ Hb).mono ?_; rintro e w7 ⟨rfl, Hb⟩; obtain ⟨q0, q1⟩ := hcl _ Hb)
    | fail)
  go_ret
  exact ⟨rfl, bthen hb4 hb4.size Hb⟩
end Go.Proofs.Ytampggkjlpbbmaa
