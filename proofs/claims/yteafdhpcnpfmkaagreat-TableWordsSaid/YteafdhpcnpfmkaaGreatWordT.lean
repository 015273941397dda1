/- Layer 11: a text with notes, blanks and newlines put in at its braces and semicolons: its tokens are the same but for places, and so is what it says. Conditions: no slash in the text; nothing of the program is named here. -/
import Derived.Test.YteafdhpcnpfmkaaGreatParseP
namespace Go.Proofs.YteafdhpcnpfmkaaGreat

theorem kd_sep2 {a b : ByteArray} (hs : Sep a b) (ha : 0 < a.size) (h47 : bt a 0 ≠ 47) (hm : 0 < b.size → mayB b 0 = false) : kd (a ++ b) = kd a ∧ ln (a ++ b) = ln a := by
  have h0 : bt (a ++ b) 0 = bt a 0 := bt_app_left _ _ _ ha
  have hm0 : mayB (a ++ b) 0 = mayB a 0 := sep_may hs (j := 0) (cnt_pos ha)
  have hw := wrN_sep hs hm
  constructor
  · unfold kd
    simp only [h0, hm0, hw, if_neg h47]
  · unfold ln
    simp only [h0, hw, if_neg h47]
/-- A text without a slash ahead of what is no letter. -/
theorem scan_sep2 (n : Nat) : ∀ (a b : ByteArray) (off : Nat), a.size ≤ n → validS a = true → (∀ i, i < a.size → bt a i ≠ 47) → (0 < b.size → mayB b 0 = false) →
    ((scan a off).2.1 = 0 → (scan (a ++ b) off).1 = (scan a off).1.dropLast ++ (scan b (off + a.size)).1 ∧ (scan (a ++ b) off).2 = (scan b (off + a.size)).2) ∧
    (¬ (scan a off).2.1 = 0 → (scan (a ++ b) off).2 = (scan a off).2) := by
  induction n with
  | zero =>
    intro a b off hn hv h47 hm
    have ha : a = ⟨#[]⟩ := nil_size (by omega)
    subst ha
    rw [nil_app', scan_nil (u := ⟨#[]⟩) rfl]
    exact ⟨fun _ => ⟨rfl, rfl⟩, fun h => absurd rfl h⟩
  | succ n ih =>
    intro a b off hn hv h47 hm
    rcases Nat.eq_zero_or_pos a.size with h | h
    · have ha : a = ⟨#[]⟩ := nil_size h
      subst ha
      rw [nil_app', scan_nil (u := ⟨#[]⟩) rfl]
      exact ⟨fun _ => ⟨rfl, rfl⟩, fun h => absurd rfl h⟩
    · have hs := sep_valid (b := b) hv
      obtain ⟨hkd, hln⟩ := kd_sep2 hs h (h47 0 h) hm
      have hz : 0 < (a ++ b).size := by rw [size_app]; omega
      by_cases h3 : 3 ≤ kd a
      · rw [scan_err h h3, scan_err hz (by omega), hkd]
        exact ⟨fun h => by dsimp only at h; omega, fun _ => rfl⟩
      · have hle := ln_le h
        have hl := cutB_lt h (by omega)
        have hE := scan_go (off := off) h (by omega)
        have hE2 := scan_go (u := a ++ b) (off := off) hz (by omega)
        obtain ⟨e1, e2⟩ := cutB_app hs hle
        have hp := sep_plc hs _ hle
        have hcz := cutB_size a (ln a)
        have hne := scan_ne _ (cutB a (ln a)) (off + plc a (ln a)) (Nat.le_refl _)
        have ih := ih (cutB a (ln a)) b (off + plc a (ln a)) (by omega) (valid_cut hv _) (fun i hi => by rw [cutB_bt _ _ i hi]; exact h47 _ (by omega)) hm
        rw [hkd, hln, e1, e2, hp] at hE2
        rw [show off + plc a (ln a) + (cutB a (ln a)).size = off + a.size by omega] at ih
        generalize scan a off = r at hE ⊢
        generalize scan (a ++ b) off = rr at hE2 ⊢
        generalize scan (cutB a (ln a)) (off + plc a (ln a)) = r2 at hE ih hne
        generalize scan (cutB a (ln a) ++ b) (off + plc a (ln a)) = r3 at hE2 ih
        generalize scan b (off + a.size) = r4 at ih ⊢
        subst hE hE2
        dsimp only
        refine ⟨fun h0 => ?_, fun h0 => ih.2 h0⟩
        obtain ⟨f1, f2⟩ := ih.1 h0
        refine ⟨?_, f2⟩
        rw [f1, List.dropLast_append_of_ne_nil (hne h0), List.append_assoc]

/-! what the law puts in -/
def note11 : ByteArray := ⟨#[32, 47, 47, 32, 110, 111, 116, 101, 10, 9]⟩
def pre11 (c : Nat) : ByteArray := if c = 123 then note11 else ⟨#[]⟩
def post11 (c : Nat) : ByteArray := if c = 59 then ⟨#[10]⟩ else ⟨#[]⟩
def mk11 (l : List UInt8) : ByteArray := ⟨l.toArray⟩
def insL : List UInt8 → ByteArray
  | [] => ⟨#[]⟩
  | b :: r => pre11 b.toNat ++ (mk11 [b] ++ (post11 b.toNat ++ insL r))
theorem mk_app (a b : List UInt8) : mk11 (a ++ b) = mk11 a ++ mk11 b := by
  apply ByteArray.ext
  simp [mk11]
theorem mk_cons (b : UInt8) (r : List UInt8) : mk11 (b :: r) = mk11 [b] ++ mk11 r := mk_app [b] r
theorem mk_size (l : List UInt8) : (mk11 l).size = l.length := by simp [mk11, ByteArray.size]
theorem mk_bt {l : List UInt8} {i : Nat} {b : UInt8} (h : l[i]? = some b) : bt (mk11 l) i = b.toNat := by
  obtain ⟨hi, e⟩ := List.getElem?_eq_some_iff.1 h
  show ((l.toArray)[i]!).toNat = _
  rw [getElem!_pos l.toArray i (by simpa using hi)]
  simp [e]
theorem insL_snoc (b : UInt8) : ∀ l : List UInt8, insL (l ++ [b]) = insL l ++ pre11 b.toNat ++ mk11 [b] ++ post11 b.toNat
  | [] => by
    show pre11 _ ++ (mk11 [b] ++ (post11 _ ++ ⟨#[]⟩)) = ⟨#[]⟩ ++ pre11 _ ++ mk11 [b] ++ post11 _
    rw [app_nil, nil_app', ← app_assoc]
  | x :: r => by
    show pre11 _ ++ (mk11 [x] ++ (post11 _ ++ insL (r ++ [b]))) = pre11 _ ++ (mk11 [x] ++ (post11 _ ++ insL r)) ++ pre11 b.toNat ++ mk11 [b] ++ post11 b.toNat
    rw [insL_snoc b r]
    simp only [app_assoc]
/-- Neither a brace nor a semicolon. -/
def plain11 (b : UInt8) : Bool := !decide (b.toNat = 123) && !decide (b.toNat = 59)
theorem insL_plain : ∀ {l : List UInt8}, (∀ b ∈ l, plain11 b = true) → insL l = mk11 l
  | [], _ => rfl
  | b :: r, h => by
    have h1 := h b List.mem_cons_self
    unfold plain11 at h1
    simp only [Bool.and_eq_true, Bool.not_eq_true', decide_eq_false_iff_not] at h1
    show pre11 _ ++ (mk11 [b] ++ (post11 _ ++ insL r)) = _
    rw [insL_plain fun x hx => h x (List.mem_cons_of_mem _ hx), mk_cons b r]
    unfold pre11 post11
    rw [if_neg h1.1, if_neg h1.2, nil_app', nil_app']
theorem insL_app : ∀ (a : List UInt8) (r : List UInt8), insL (a ++ r) = insL a ++ insL r
  | [], r => (nil_app' _).symm
  | b :: a, r => by
    show pre11 _ ++ (mk11 [b] ++ (post11 _ ++ insL (a ++ r))) = pre11 _ ++ (mk11 [b] ++ (post11 _ ++ insL a)) ++ insL r
    rw [insL_app a r]
    simp only [app_assoc]
theorem split11 (l : List UInt8) : (∀ b ∈ l, plain11 b = true) ∨ ∃ a c r, l = a ++ c :: r ∧ (∀ b ∈ a, plain11 b = true) ∧ (c.toNat = 123 ∨ c.toNat = 59) := by
  induction l with
  | nil => exact .inl fun b hb => by cases hb
  | cons b l ih =>
    by_cases hb : plain11 b = true
    · rcases ih with h | ⟨a, c, r, rfl, h1, h2⟩
      · exact .inl fun x hx => by
          rcases List.mem_cons.1 hx with rfl | hx
          · exact hb
          · exact h x hx
      · exact .inr ⟨b :: a, c, r, rfl, fun x hx => by
          rcases List.mem_cons.1 hx with rfl | hx
          · exact hb
          · exact h1 x hx, h2⟩
    · refine .inr ⟨[], b, l, rfl, fun x hx => (by cases hx), ?_⟩
      unfold plain11 at hb
      simp only [Bool.and_eq_true, Bool.not_eq_true', decide_eq_false_iff_not] at hb
      omega
theorem mk_one {c : UInt8} {k : Nat} (h : c.toNat = k) : mk11 [c] = sOne k := by
  subst h
  show (⟨#[c]⟩ : ByteArray) = ⟨#[UInt8.ofNat c.toNat]⟩
  simp
theorem sign11 {k : Nat} (h : k = 123 ∨ k = 59) : signB k = true := signB_iff.2 (by omega)
/-- What stands from a brace or a semicolon on. -/
theorem scan_ins {k : Nat} (h : k = 123 ∨ k = 59) (R : ByteArray) (off : Nat) : ∃ o p, scan (pre11 k ++ (sOne k ++ (post11 k ++ R))) off = ((2, sOne k, p) :: (scan R o).1, (scan R o).2) := by
  rcases h with rfl | rfl
  · have e1 : pre11 123 = sOne 32 ++ (sSl ++ ⟨#[32, 110, 111, 116, 101]⟩ ++ (sOne 10 ++ sOne 9)) := by decide +kernel
    have e2 : post11 123 = ⟨#[]⟩ := rfl
    rw [e1, e2, nil_app']
    have e3 : sOne 32 ++ (sSl ++ ⟨#[32, 110, 111, 116, 101]⟩ ++ (sOne 10 ++ sOne 9)) ++ (sOne 123 ++ R) = sOne 32 ++ (sSl ++ ⟨#[32, 110, 111, 116, 101]⟩ ++ (sOne 10 ++ (sOne 9 ++ (sOne 123 ++ R)))) := by simp only [app_assoc]
    rw [e3, scan_blank1 rfl, scan_note1 (by decide +kernel) (by decide +kernel) (fun _ => ascii_first (by omega)), scan_blank1 rfl, scan_blank1 rfl, scan_sign1 rfl]
    exact ⟨_, _, rfl⟩
  · have e1 : pre11 59 = ⟨#[]⟩ := rfl
    have e2 : post11 59 = sOne 10 := rfl
    rw [e1, e2, nil_app', scan_sign1 rfl, scan_blank1 rfl]
    exact ⟨_, _, rfl⟩
theorem first_ins {k : Nat} (h : k = 123 ∨ k = 59) (R : ByteArray) : 0 < (pre11 k ++ (sOne k ++ R)).size ∧ bt (pre11 k ++ (sOne k ++ R)) 0 < 128 ∧ mayB (pre11 k ++ (sOne k ++ R)) 0 = false := by
  have key : ∀ u : ByteArray, 0 < u.size → bt u 0 = 32 ∨ bt u 0 = 59 → 0 < u.size ∧ bt u 0 < 128 ∧ mayB u 0 = false := fun u hu hb => by
    refine ⟨hu, by omega, ?_⟩
    rw [may_low hu (by omega)]
    rcases hb with e | e <;> rw [e] <;> rfl
  rcases h with rfl | rfl
  · refine key _ (by rw [size_app]; show 0 < 10 + _; omega) (.inl ?_)
    rw [bt_app_left _ _ _ (by show 0 < 10; omega)]
    rfl
  · have e1 : pre11 59 = ⟨#[]⟩ := rfl
    rw [e1, nil_app']
    exact key _ (by rw [size_app, sOne_size]; omega) (.inr (ascii_first (by omega)))
theorem first_one {k : Nat} (h : k = 123 ∨ k = 59) (R : ByteArray) : 0 < (sOne k ++ R).size ∧ bt (sOne k ++ R) 0 < 128 ∧ mayB (sOne k ++ R) 0 = false := by
  have h0 : bt (sOne k ++ R) 0 = k := ascii_first (by omega)
  have hz : 0 < (sOne k ++ R).size := by rw [size_app, sOne_size]; omega
  refine ⟨hz, by omega, ?_⟩
  rw [may_low hz (by omega), h0]
  rcases h with e | e <;> rw [e] <;> rfl
theorem pre_valid {k : Nat} (h : k = 123 ∨ k = 59) : validS (pre11 k) = true ∧ validS (post11 k) = true := by
  rcases h with rfl | rfl <;> exact ⟨by decide +kernel, by decide +kernel⟩
theorem ins_valid (n : Nat) : ∀ l : List UInt8, l.length ≤ n → validS (insL l) = validS (mk11 l) := by
  induction n with
  | zero =>
    intro l hn
    obtain rfl : l = [] := List.eq_nil_of_length_eq_zero (by omega)
    rfl
  | succ n ih =>
    intro l hn
    rcases split11 l with h | ⟨a, c, r, rfl, ha, hc⟩
    · rw [insL_plain h]
    · have hr := ih r (by simp at hn; omega)
      obtain ⟨v1, v2⟩ := pre_valid hc
      have hs : validS (sOne c.toNat) = true := sOne_valid (by omega)
      have e1 : mk11 (a ++ c :: r) = mk11 a ++ (sOne c.toNat ++ mk11 r) := by rw [mk_app, mk_cons, mk_one rfl]
      have e2 : insL (a ++ c :: r) = mk11 a ++ (pre11 c.toNat ++ (sOne c.toNat ++ (post11 c.toNat ++ insL r))) := by
        rw [insL_app, insL_plain ha]
        show _ ++ (pre11 _ ++ (mk11 [c] ++ (post11 _ ++ insL r))) = _
        rw [mk_one rfl]
      have f1 : validS (sOne c.toNat ++ mk11 r) = validS (mk11 r) := by rw [sep_validS (sep_valid hs), hs, Bool.true_and]
      have f2 : validS (pre11 c.toNat ++ (sOne c.toNat ++ (post11 c.toNat ++ insL r))) = validS (mk11 r) := by rw [sep_validS (sep_valid v1), sep_validS (sep_valid hs), sep_validS (sep_valid v2), v1, v2, hs, hr]; rfl
      rw [e1, e2, sep_validS (a := mk11 a) (b := pre11 c.toNat ++ (sOne c.toNat ++ (post11 c.toNat ++ insL r))) (sep_nc fun _ => .inl (first_ins hc _).2.1), sep_validS (a := mk11 a) (b := sOne c.toNat ++ mk11 r) (sep_nc fun _ => .inl (first_one hc _).2.1), f1, f2]
/-- The same tokens but for places, or the same error. -/
def SameS (x y : List Tk × Nat × Nat) : Prop := x.2.1 = y.2.1 ∧ (x.2.1 = 0 → x.1.map ktT = y.1.map ktT)
theorem same_off (u : ByteArray) (o p : Nat) : SameS (scan u o) (scan u p) := by
  have h1 := scan_shift _ u 0 o (Nat.le_refl _)
  have h2 := scan_shift _ u 0 p (Nat.le_refl _)
  rw [Nat.zero_add] at h1 h2
  refine ⟨h1.2.trans h2.2.symm, fun _ => ?_⟩
  rw [h1.1, h2.1, List.map_map, List.map_map]
  rfl
theorem ins_scan (n : Nat) : ∀ (l : List UInt8) (o p : Nat), l.length ≤ n → validS (mk11 l) = true → (∀ b ∈ l, b.toNat ≠ 47) → SameS (scan (insL l) o) (scan (mk11 l) p) := by
  induction n with
  | zero =>
    intro l o p hn _ _
    obtain rfl : l = [] := List.eq_nil_of_length_eq_zero (by omega)
    exact same_off _ _ _
  | succ n ih =>
    intro l o p hn hv h47
    rcases split11 l with h | ⟨a, c, r, rfl, ha, hc⟩
    · rw [insL_plain h]
      exact same_off _ _ _
    · have hs : validS (sOne c.toNat) = true := sOne_valid (by omega)
      have e1 : mk11 (a ++ c :: r) = mk11 a ++ (sOne c.toNat ++ mk11 r) := by rw [mk_app, mk_cons, mk_one rfl]
      have e2 : insL (a ++ c :: r) = mk11 a ++ (pre11 c.toNat ++ (sOne c.toNat ++ (post11 c.toNat ++ insL r))) := by
        rw [insL_app, insL_plain ha]
        show _ ++ (pre11 _ ++ (mk11 [c] ++ (post11 _ ++ insL r))) = _
        rw [mk_one rfl]
      rw [e1, sep_validS (sep_nc fun _ => .inl (first_one hc _).2.1), sep_validS (sep_valid hs), hs, Bool.true_and, Bool.and_eq_true] at hv
      have h47a : ∀ i, i < (mk11 a).size → bt (mk11 a) i ≠ 47 := fun i hi => by
        rw [mk_size] at hi
        rw [mk_bt (List.getElem?_eq_getElem hi)]
        exact h47 _ (List.mem_append_left _ (List.getElem_mem _))
      have g1 := fun q => scan_sep2 _ (mk11 a) (pre11 c.toNat ++ (sOne c.toNat ++ (post11 c.toNat ++ insL r))) q (Nat.le_refl _) hv.1 h47a fun _ => (first_ins hc _).2.2
      have g2 := fun q => scan_sep2 _ (mk11 a) (sOne c.toNat ++ mk11 r) q (Nat.le_refl _) hv.1 h47a fun _ => (first_one hc _).2.2
      rw [e1, e2]
      obtain ⟨a1, a2⟩ := g1 o
      obtain ⟨b1, b2⟩ := g2 p
      have sA := same_off (mk11 a) o p
      by_cases h0 : (scan (mk11 a) o).2.1 = 0
      · have h0' : (scan (mk11 a) p).2.1 = 0 := by rw [← sA.1]; exact h0
        obtain ⟨x1, x2⟩ := a1 h0
        obtain ⟨y1, y2⟩ := b1 h0'
        obtain ⟨q1, q2, eq1⟩ := scan_ins hc (insL r) (o + (mk11 a).size)
        have eq2 := scan_sign1 (r := mk11 r) (off := p + (mk11 a).size) (sign11 hc)
        have hrr := ih r q1 (p + (mk11 a).size + 1) (by simp at hn; omega) hv.2 fun b hb => h47 b (List.mem_append_right _ (List.mem_cons_of_mem _ hb))
        rw [eq1] at x1 x2
        rw [eq2] at y1 y2
        refine ⟨by rw [x2, y2]; exact hrr.1, fun hz => ?_⟩
        rw [x2] at hz
        have hk := sA.2 h0
        rw [x1, y1, List.map_append, List.map_append, List.map_dropLast, List.map_dropLast, hk, List.map_cons, List.map_cons, hrr.2 hz]
        rfl
      · have h0' : ¬ (scan (mk11 a) p).2.1 = 0 := by rw [← sA.1]; exact h0
        refine ⟨by rw [a2 h0, b2 h0']; exact sA.1, fun hz => ?_⟩
        rw [a2 h0] at hz
        exact absurd hz h0
theorem ins_all {l : List UInt8} (h47 : ∀ b ∈ l, b.toNat ≠ 47) (h1 : l.length ≤ 2048) (h2 : (insL l).size ≤ 2048) : SameS (allS (insL l)) (allS (mk11 l)) := by
  have h1' : (mk11 l).size ≤ 2048 := by rw [mk_size]; exact h1
  have hv := ins_valid _ l (Nat.le_refl _)
  cases e : validS (mk11 l) with
  | false =>
    rw [e] at hv
    rw [all_bad h1' e, all_bad h2 hv]
    exact ⟨rfl, fun _ => rfl⟩
  | true =>
    rw [e] at hv
    have hs := ins_scan _ l 0 0 (Nat.le_refl _) e h47
    by_cases h0 : (scan (insL l) 0).2.1 = 0
    · rw [all_ok h2 hv h0, all_ok h1' e (by rw [← hs.1]; exact h0)]
      exact hs
    · have h0' : ¬ (scan (mk11 l) 0).2.1 = 0 := by rw [← hs.1]; exact h0
      rw [all_err h2 hv h0, all_err h1' e h0']
      exact ⟨hs.1, fun hz => absurd hz h0⟩

/-! places are nothing to what is said -/
def EqK (l m : List Tk) : Prop := l.map ktT = m.map ktT
theorem EqK.hd {l m : List Tk} (h : EqK l m) : (hdT l).1 = (hdT m).1 ∧ (hdT l).2.1 = (hdT m).2.1 := by
  unfold EqK at h
  cases l with
  | nil =>
    cases m with
    | nil => exact ⟨rfl, rfl⟩
    | cons b m => cases h
  | cons a l =>
    cases m with
    | nil => cases h
    | cons b m =>
      rw [List.map_cons, List.map_cons, List.cons.injEq] at h
      exact ⟨(Prod.ext_iff.1 h.1).1, (Prod.ext_iff.1 h.1).2⟩
theorem EqK.tail {l m : List Tk} (h : EqK l m) : EqK l.tail m.tail := by
  unfold EqK at *
  rw [List.map_tail, List.map_tail, h]
theorem EqK.isT {l m : List Tk} (h : EqK l m) (s : ByteArray) : Go.Proofs.YteafdhpcnpfmkaaGreat.isT s l = Go.Proofs.YteafdhpcnpfmkaaGreat.isT s m := by
  unfold Go.Proofs.YteafdhpcnpfmkaaGreat.isT
  rw [h.hd.1, h.hd.2]
theorem EqK.opT {l m : List Tk} (h : EqK l m) : Go.Proofs.YteafdhpcnpfmkaaGreat.opT l = Go.Proofs.YteafdhpcnpfmkaaGreat.opT m := by
  unfold Go.Proofs.YteafdhpcnpfmkaaGreat.opT
  rw [h.isT, h.isT, h.isT]
def SameR {α : Type} (x y : Rs α) : Prop := match x, y with
  | .ok p, .ok q => p.1 = q.1 ∧ EqK p.2 q.2
  | .error e, .error f => e.1 = f.1
  | _, _ => False
theorem SameR.bad {α : Type} (c : Nat) (l m : List Tk) : SameR (badT c l : Rs α) (badT c m) := rfl
theorem SameR.ok {α : Type} {a : α} {l m : List Tk} (h : EqK l m) : SameR (.ok (a, l)) (.ok (a, m)) := ⟨rfl, h⟩
theorem SameR.and {α β : Type} {r s : Rs α} {k j : α → List Tk → Rs β} (h : SameR r s) (hk : ∀ a l m, EqK l m → SameR (k a l) (j a m)) : SameR (andT r k) (andT s j) := by
  cases r with
  | error e =>
    cases s with
    | error f => exact h
    | ok q => exact h.elim
  | ok p =>
    cases s with
    | error f => exact h.elim
    | ok q =>
      obtain ⟨a, l⟩ := p
      obtain ⟨b, m⟩ := q
      obtain ⟨h1, h2⟩ := h
      have h1 : a = b := h1
      subst h1
      exact hk a l m h2
theorem SameR.ite {α : Type} {p q : Prop} [Decidable p] [Decidable q] {a b c d : Rs α} (h : p ↔ q) (h1 : p → SameR a c) (h2 : ¬ p → SameR b d) : SameR (if p then a else b) (if q then c else d) := by
  by_cases hp : p
  · rw [if_pos hp, if_pos (h.1 hp)]; exact h1 hp
  · rw [if_neg hp, if_neg fun k => hp (h.2 k)]; exact h2 hp
theorem SameR.need {l m : List Tk} (h : EqK l m) (s : ByteArray) : SameR (needT s l) (needT s m) := SameR.ite (by rw [h.isT]) (fun _ => .ok h.tail) fun _ => .bad _ _ _
theorem SameR.name {l m : List Tk} (h : EqK l m) : SameR (nameT l) (nameT m) := by
  unfold nameT
  rw [h.hd.1, h.hd.2]
  exact SameR.ite Iff.rfl (fun _ => .ok h.tail) fun _ => .bad _ _ _
theorem part_same : ∀ f : Nat, (∀ d l m, EqK l m → SameR (partF f d l) (partF f d m)) ∧ (∀ d acc l m, EqK l m → SameR (moreF f d acc l) (moreF f d acc m))
  | 0 => ⟨fun d l m _ => by unfold partF; exact .bad _ _ _, fun d acc l m _ => by unfold moreF; exact .bad _ _ _⟩
  | f + 1 => by
    obtain ⟨ih1, ih2⟩ := part_same f
    constructor
    · intro d l m h
      unfold partF
      refine SameR.ite (by rw [h.isT]) (fun _ => .ok h.tail) fun _ => SameR.ite (by rw [h.isT]) (fun _ => SameR.ite Iff.rfl (fun _ => .bad _ _ _) fun _ => ?_) fun _ => ?_
      · exact (ih1 _ _ _ h.tail).and fun o l m h => (ih2 _ _ _ _ h).and fun o l m h => (SameR.need h _).and fun _ l m h => .ok h
      · exact (SameR.name h).and fun n l m h => SameR.ite (by rw [h.isT]) (fun _ => (SameR.name h.tail).and fun _ l m h => .ok h) fun _ => .ok h
    · intro d acc l m h
      unfold moreF
      refine SameR.ite (by rw [h.opT]) (fun _ => .ok h) fun _ => (ih1 _ _ _ h.tail).and fun o l2 m2 h2 => ?_
      rw [h.opT]
      exact ih2 _ _ _ _ h2
theorem rew_same (f d : Nat) {l m : List Tk} (h : EqK l m) : SameR (rewF f d l) (rewF f d m) := ((part_same f).1 d l m h).and fun o l m h => (part_same f).2 d o l m h
theorem who_same : ∀ (f : Nat) (acc : List SubP) (l m : List Tk), EqK l m → SameR (whoF f acc l) (whoF f acc m)
  | 0, acc, l, m, _ => by unfold whoF; exact .bad _ _ _
  | f + 1, acc, l, m, h => by
    unfold whoF
    exact (SameR.name h).and fun n l m h => (SameR.ite (by rw [h.isT]) (fun _ => SameR.name h.tail) fun _ => .ok h).and fun x l m h => SameR.ite (by rw [h.isT]) (fun _ => who_same f _ _ _ h.tail) fun _ => .ok h
theorem rel_same (f : Nat) {l m : List Tk} (h : EqK l m) : SameR (relF f l) (relF f m) := by
  unfold relF
  exact (SameR.name h).and fun n l m h => (SameR.need h _).and fun _ l m h => (SameR.name h).and fun v l m h => (SameR.need h _).and fun _ l m h =>
    (SameR.name h).and fun e l m h => (SameR.need h _).and fun _ l m h => (SameR.name h).and fun c l m h => (SameR.need h _).and fun _ l m h =>
    (SameR.need h _).and fun _ l m h => (SameR.ite (by rw [h.isT, h.isT]) (fun _ => .ok h) fun _ => who_same f _ _ _ h).and fun w l m h =>
    (SameR.ite (by rw [h.isT]) (fun _ => rew_same f 0 h.tail) fun _ => .ok h).and fun o l m h => (SameR.need h _).and fun _ l m h => .ok h
theorem rels_same (f : Nat) : ∀ (g : Nat) (acc : List RelP) (l m : List Tk), EqK l m → SameR (relsF f g acc l) (relsF f g acc m)
  | 0, acc, l, m, _ => by unfold relsF; exact .bad _ _ _
  | g + 1, acc, l, m, h => by
    unfold relsF
    exact SameR.ite (by rw [h.isT]) (fun _ => (rel_same f h.tail).and fun x l m h => rels_same f g _ _ _ h) fun _ => .ok h
theorem types_same (f : Nat) : ∀ (g : Nat) (acc : List TypP) (l m : List Tk), EqK l m → SameR (typesF f g acc l) (typesF f g acc m)
  | 0, acc, l, m, _ => by unfold typesF; exact .bad _ _ _
  | g + 1, acc, l, m, h => by
    unfold typesF
    exact SameR.ite (by rw [h.isT]) (fun _ => (SameR.name h.tail).and fun n l m h => (SameR.need h _).and fun _ l m h => (rels_same f f [] _ _ h).and fun rs l m h => (SameR.need h _).and fun _ l m h => types_same f g _ _ _ h) fun _ => .ok h
theorem schema_same {l m : List Tk} (h : EqK l m) : SameR (schemaF l) (schemaF m) := by
  have hl : l.length = m.length := by have := congrArg List.length h; rwa [List.length_map, List.length_map] at this
  unfold schemaF
  rw [hl]
  exact (types_same _ _ [] l m h).and fun t l m h => SameR.ite (by rw [h.hd.1]) (fun _ => .ok h) fun _ => .bad _ _ _
/-- What they say, or the error's number, is the same. -/
theorem parse_same {s t : ByteArray} (h : SameS (allS s) (allS t)) : (parseS s).1 = (parseS t).1 ∧ (parseS s).2.1 = (parseS t).2.1 := by
  unfold parseS
  by_cases h0 : (allS s).2.1 = 0
  · rw [if_pos h0, if_pos (h.1 ▸ h0)]
    have hs := schema_same (h.2 h0)
    generalize schemaF (allS s).1 = x at *
    generalize schemaF (allS t).1 = y at *
    cases x with
    | error e =>
      cases y with
      | error f => exact ⟨rfl, hs⟩
      | ok q => exact hs.elim
    | ok p =>
      cases y with
      | error f => exact hs.elim
      | ok q => exact ⟨hs.1, rfl⟩
  · rw [if_neg h0, if_neg fun k => h0 (h.1.trans k)]
    exact ⟨rfl, h.1⟩
end Go.Proofs.YteafdhpcnpfmkaaGreat
