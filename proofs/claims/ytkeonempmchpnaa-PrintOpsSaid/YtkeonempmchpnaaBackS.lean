/- Layer 8: the text that a schema is shown as: its tokens; parsed, it says the same. Conditions: none; nothing of the program is named here. -/
import Derived.Test.YtkeonempmchpnaaBackT
import Derived.Test.YtkeonempmchpnaaDeepF
import Derived.Test.YtkeonempmchpnaaShowW
namespace Go.Proofs.Ytkeonempmchpnaa

def St8 (r : ByteArray) : Prop := 0 < r.size → mayB r 0 = false
def Tk8 (x r : ByteArray) (ks : List KT) (off : Nat) : Prop := ∃ ts, Km ts ks ∧ scan (x ++ r) off = (ts ++ (scan r (off + x.size)).1, (scan r (off + x.size)).2)
/-- A text's tokens, where no letter stands behind it; whatever stands behind it. -/
def Lw (x : ByteArray) (ks : List KT) : Prop := validS x = true ∧ ∀ r off, St8 r → Tk8 x r ks off
def Ls (x : ByteArray) (ks : List KT) : Prop := validS x = true ∧ ∀ r off, Tk8 x r ks off
def Lo8 (y : ByteArray) : Prop := ∀ r, St8 (y ++ r)
theorem Ls.weak {x : ByteArray} {ks : List KT} (h : Ls x ks) : Lw x ks := ⟨h.1, fun r off _ => h.2 r off⟩
theorem tk_app {x y r : ByteArray} {a b : List KT} {off : Nat} (hx : Tk8 x (y ++ r) a off) (hy : Tk8 y r b (off + x.size)) : Tk8 (x ++ y) r (a ++ b) off := by
  obtain ⟨t1, k1, e1⟩ := hx
  obtain ⟨t2, k2, e2⟩ := hy
  refine ⟨t1 ++ t2, by unfold Km at *; rw [List.map_append, k1, k2], ?_⟩
  rw [app_assoc, e1, e2, size_app, Nat.add_assoc, List.append_assoc]
theorem val_app {x y : ByteArray} (hx : validS x = true) (hy : validS y = true) : validS (x ++ y) = true := by rw [sep_validS (sep_valid hx), hx, hy]; rfl
theorem Ls.appS {x y : ByteArray} {a b : List KT} (hx : Ls x a) (hy : Ls y b) : Ls (x ++ y) (a ++ b) := ⟨val_app hx.1 hy.1, fun _ _ => tk_app (hx.2 _ _) (hy.2 _ _)⟩
theorem Ls.appW {x y : ByteArray} {a b : List KT} (hx : Ls x a) (hy : Lw y b) : Lw (x ++ y) (a ++ b) := ⟨val_app hx.1 hy.1, fun _ _ hr => tk_app (hx.2 _ _) (hy.2 _ _ hr)⟩
theorem Lw.appS {x y : ByteArray} {a b : List KT} (hx : Lw x a) (ho : Lo8 y) (hy : Ls y b) : Ls (x ++ y) (a ++ b) := ⟨val_app hx.1 hy.1, fun r _ => tk_app (hx.2 _ _ (ho r)) (hy.2 _ _)⟩
theorem Lw.appW {x y : ByteArray} {a b : List KT} (hx : Lw x a) (ho : Lo8 y) (hy : Lw y b) : Lw (x ++ y) (a ++ b) := ⟨val_app hx.1 hy.1, fun r _ hr => tk_app (hx.2 _ _ (ho r)) (hy.2 _ _ hr)⟩
theorem Lo8.app {y : ByteArray} (h : Lo8 y) (z : ByteArray) : Lo8 (y ++ z) := fun r => by rw [app_assoc]; exact h _
theorem word8 {x : ByteArray} (hx : nameS x = true) : Lw x [(1, x)] := ⟨name_valid hx, fun r off hr => ⟨[(1, x, off)], rfl, by rw [scan_word1 hx hr]; rfl⟩⟩
theorem empty8 : Ls ⟨#[]⟩ [] := ⟨by decide +kernel, fun r off => ⟨[], rfl, by rw [nil_app']; rfl⟩⟩
/-- Blanks and signs. -/
def litB : List Nat → ByteArray
  | [] => ⟨#[]⟩
  | c :: r => sOne c ++ litB r
def litK : List Nat → List KT
  | [] => []
  | c :: r => if signB c = true then (2, sOne c) :: litK r else litK r
theorem lit8 : ∀ l : List Nat, (∀ c ∈ l, blankB c = true ∨ signB c = true) → Ls (litB l) (litK l)
  | [], _ => empty8
  | c :: r, h => by
    have hr := lit8 r fun x hx => h x (List.mem_cons_of_mem _ hx)
    by_cases hs : signB c = true
    · have h1 : Ls (sOne c) [(2, sOne c)] := by
        obtain ⟨v, e⟩ := Lx.sign hs
        exact ⟨v, fun r off => ⟨[(2, sOne c, off)], rfl, e r off⟩⟩
      have := h1.appS hr
      show Ls (sOne c ++ litB r) (if signB c = true then _ else _)
      rw [if_pos hs]
      exact this
    · have hb : blankB c = true := (h c List.mem_cons_self).resolve_right hs
      have h1 : Ls (sOne c) [] := by
        obtain ⟨v, e⟩ := Lx.blank hb
        exact ⟨v, fun r off => ⟨[], rfl, e r off⟩⟩
      have := h1.appS hr
      show Ls (sOne c ++ litB r) (if signB c = true then _ else _)
      rw [if_neg hs]
      exact this
theorem low8 {c : Nat} (r : List Nat) (h : blankB c = true ∨ signB c = true) : Lo8 (litB (c :: r)) := fun x => by
  show St8 (sOne c ++ litB r ++ x)
  rw [app_assoc]
  exact low_no h _
/-- A literal of blanks and signs. -/
theorem lits {x : ByteArray} (l : List Nat) (e : x = litB l) (h : ∀ c ∈ l, blankB c = true ∨ signB c = true) : Ls x (litK l) := by rw [e]; exact lit8 l h
theorem lows {x : ByteArray} {c : Nat} {l : List Nat} (e : x = litB (c :: l)) (h : blankB c = true ∨ signB c = true) : Lo8 x := by rw [e]; exact low8 l h
theorem sgn8 {k : Nat} (hk : k = 4 ∨ k = 5 ∨ k = 6) : Ls (sgnS k) [(2, sgc k)] ∧ Lo8 (sgnS k) := by
  rcases hk with rfl | rfl | rfl
  · exact ⟨lits [32, 124, 32] (by decide +kernel) (by decide), lows (c := 32) (l := [124, 32]) (by decide +kernel) (.inl rfl)⟩
  · exact ⟨lits [32, 38, 32] (by decide +kernel) (by decide), lows (c := 32) (l := [38, 32]) (by decide +kernel) (.inl rfl)⟩
  · exact ⟨lits [32, 45, 32] (by decide +kernel) (by decide), lows (c := 32) (l := [45, 32]) (by decide +kernel) (.inl rfl)⟩
theorem text8 : ∀ t : Ex, t.good → t.nm → Lw t.text (tkX t)
  | .this, _, _ => word8 (by decide +kernel)
  | .same n, _, h => by
    have h2 : NmW n := h
    exact word8 h2.1
  | .via n m, _, h => by
    have h1 := (word8 h.1.1).appS (lows (x := ⟨#[46]⟩) (c := 46) (l := []) (by decide +kernel) (.inr rfl)) (lits [46] (by decide +kernel) (by decide))
    exact h1.appW (word8 h.2.1)
  | .bin k a b, hg, hn => by
    obtain ⟨hk, hga, hgb⟩ := hg
    have ha := text8 a hga hn.1
    have hb := text8 b hgb hn.2
    obtain ⟨s1, s2⟩ := sgn8 hk
    have h1 := ha.appS s2 s1
    have h2 : Lw (parS b.sg b.text) (ptkX b) := by
      unfold parS ptkX
      by_cases h : b.sg = true
      · rw [if_pos h, if_pos h]
        have o := lits (x := ⟨#[40]⟩) [40] (by decide +kernel) (by decide)
        have c := lits (x := ⟨#[41]⟩) [41] (by decide +kernel) (by decide)
        exact ((o.appW hb).appS (lows (c := 41) (l := []) (by decide +kernel) (.inr rfl)) c).weak
      · rw [if_neg h, if_neg h]
        exact hb
    have h3 := h1.appW h2
    rw [List.append_assoc] at h3
    exact h3
theorem sub8 {s : SubP} (h : SubG s) : Lw (subS s) (subK s) := by
  unfold subS subK
  by_cases he : s.2 = ⟨#[]⟩
  · rw [if_pos he, if_pos he]
    exact word8 h.1.1
  · rw [if_neg he, if_neg he]
    have h2 : NmW s.2 := h.2.resolve_left he
    exact ((word8 h.1.1).appS (lows (x := ⟨#[35]⟩) (c := 35) (l := []) (by decide +kernel) (.inr rfl)) (lits [35] (by decide +kernel) (by decide))).appW (word8 h2.1)
theorem subs8 : ∀ (r : List SubP) (s : SubP), SubG s → (∀ x ∈ r, SubG x) → Lw (subS s ++ tailJ ⟨#[44, 32]⟩ (r.map subS)) (subK s ++ tailK r)
  | [], s, hs, _ => by
    rw [show tailJ ⟨#[44, 32]⟩ (([] : List SubP).map subS) = ⟨#[]⟩ from rfl, show tailK [] = [] from rfl, app_nil, List.append_nil]
    exact sub8 hs
  | s2 :: r, s, hs, hr => by
    have ih := subs8 r s2 (hr _ List.mem_cons_self) fun x hx => hr x (List.mem_cons_of_mem _ hx)
    have c := lits (x := ⟨#[44, 32]⟩) [44, 32] (by decide +kernel) (by decide)
    have lo := lows (x := ⟨#[44, 32]⟩) (c := 44) (l := [32]) (by decide +kernel) (.inr rfl)
    have h1 := (sub8 hs).appW (lo.app _) (c.appW ih)
    have e : tailJ ⟨#[44, 32]⟩ ((s2 :: r).map subS) = ⟨#[44, 32]⟩ ++ (subS s2 ++ tailJ ⟨#[44, 32]⟩ (r.map subS)) := by simp only [List.map_cons, tailJ, app_assoc]
    have ek : litK [44, 32] = [(2, sg 44)] := by decide +kernel
    rw [ek] at h1
    rw [e]
    exact h1
def headK (x : RelP) : List KT := [(1, sRel), (1, x.name), (2, sg 40), (1, x.view), (2, sg 44), (1, x.edit), (2, sg 44), (1, x.check), (2, sg 41), (2, sg 58)]
theorem head8 {x : RelP} (g : RelG x) : Ls (headS x) (headK x) := by
  have w0 := (word8 (x := sRel) (by decide +kernel)).appS (lows (x := ⟨#[32]⟩) (c := 32) (l := []) (by decide +kernel) (.inl rfl)) (lits [32] (by decide +kernel) (by decide))
  rw [show sRel ++ ⟨#[32]⟩ = (⟨#[114, 101, 108, 32]⟩ : ByteArray) by decide +kernel] at w0
  have o := lits (x := ⟨#[32, 40]⟩) [32, 40] (by decide +kernel) (by decide)
  have lo := lows (x := ⟨#[32, 40]⟩) (c := 32) (l := [40]) (by decide +kernel) (.inl rfl)
  have c := lits (x := ⟨#[44, 32]⟩) [44, 32] (by decide +kernel) (by decide)
  have lc := lows (x := ⟨#[44, 32]⟩) (c := 44) (l := [32]) (by decide +kernel) (.inr rfl)
  have e := lits (x := ⟨#[41, 58]⟩) [41, 58] (by decide +kernel) (by decide)
  have le := lows (x := ⟨#[41, 58]⟩) (c := 41) (l := [58]) (by decide +kernel) (.inr rfl)
  exact (((((((w0.appW (word8 g.name.1)).appS lo o).appW (word8 g.view.1)).appS lc c).appW (word8 g.edit.1)).appS lc c).appW (word8 g.check.1)).appS le e
theorem who8 {x : RelP} (g : RelG x) : Lw (whoS x) (headK x ++ whoK x.subs) := by
  have hh := head8 g
  unfold whoS
  have hs := g.subs
  cases hx : x.subs with
  | nil =>
    rw [if_pos (show ([] : List SubP).length = 0 from rfl)]
    show Lw (headS x) (headK x ++ [])
    rw [List.append_nil]
    exact hh.weak
  | cons s r =>
    rw [hx] at hs
    rw [if_neg (by simp)]
    have b := lits (x := ⟨#[32]⟩) [32] (by decide +kernel) (by decide)
    exact hh.appW (b.appW (subs8 r s (hs _ List.mem_cons_self) fun y hy => hs y (List.mem_cons_of_mem _ hy)))
theorem line8 {x : RelP} (g : RelG x) {t : Ex} (ht : x.ops = t.ops) (hg : t.good) (hn : t.nm) : Ls (lineS x) ((1, sRel) :: relK x t) := by
  have hw := who8 g
  have b := lits (x := ⟨#[9]⟩) [9] (by decide +kernel) (by decide)
  have n := lits (x := ⟨#[10]⟩) [10] (by decide +kernel) (by decide)
  have e := lits (x := ⟨#[59]⟩) [59] (by decide +kernel) (by decide)
  have le := lows (x := ⟨#[59]⟩) (c := 59) (l := []) (by decide +kernel) (.inr rfl)
  have hbody : Lw (if aloneB x.ops = true then whoS x else whoS x ++ (⟨#[32, 105, 115, 32]⟩ ++ rewS x.ops)) (headK x ++ whoK x.subs ++ (if aloneB x.ops = true then [] else (1, sIs) :: tkX t)) := by
    cases hal : aloneB x.ops with
    | true =>
      simp only [↓reduceIte, List.append_nil]
      exact hw
    | false =>
      simp only [Bool.false_eq_true, ↓reduceIte]
      have i0 := lits (x := ⟨#[32]⟩) [32] (by decide +kernel) (by decide)
      have l0 := lows (x := ⟨#[32]⟩) (c := 32) (l := []) (by decide +kernel) (.inl rfl)
      have i1 := (i0.appW (word8 (x := sIs) (by decide +kernel))).appS l0 i0
      have l1 := (l0.app sIs).app ⟨#[32]⟩
      rw [show ⟨#[32]⟩ ++ sIs ++ ⟨#[32]⟩ = (⟨#[32, 105, 115, 32]⟩ : ByteArray) by decide +kernel] at i1 l1
      rw [ht, rewS_tree t hg]
      exact hw.appW (l1.app _) (i1.appW (text8 t hg hn))
  have h1 := (b.appS (hbody.appS le e)).appS n
  have hk : litK [9] ++ (headK x ++ whoK x.subs ++ (if aloneB x.ops = true then [] else (1, sIs) :: tkX t) ++ litK [59]) ++ litK [10] = (1, sRel) :: relK x t := by
    show [] ++ (headK x ++ whoK x.subs ++ (if aloneB x.ops = true then [] else (1, sIs) :: tkX t) ++ [(2, sg 59)]) ++ [] = _
    rw [List.nil_append, List.append_nil, List.append_assoc, List.append_assoc]
    rfl
  rw [hk] at h1
  exact h1
theorem lines8 : ∀ r : List RelP, (∀ x ∈ r, RelG x) → ∃ ks, RelsKs r ks ∧ Ls (catL (r.map lineS)) ks
  | [], _ => ⟨[], rfl, empty8⟩
  | x :: r, h => by
    obtain ⟨b, hb, lb⟩ := lines8 r fun y hy => h y (List.mem_cons_of_mem _ hy)
    have g := h x List.mem_cons_self
    obtain ⟨t, h1, h2, h3, h4⟩ := g.ops
    exact ⟨_, ⟨_, b, rfl, ⟨g, t, h1, h2, h3, h4, rfl⟩, hb⟩, (line8 g h1 h2 h3).appS lb⟩
theorem typ8 {t : TypP} (g : TypG t) : ∃ ks, TypKs t ks ∧ Ls (typS t) ks := by
  obtain ⟨b, hb, lb⟩ := lines8 t.rels g.rels
  have w0 := (word8 (x := sType) (by decide +kernel)).appS (lows (x := ⟨#[32]⟩) (c := 32) (l := []) (by decide +kernel) (.inl rfl)) (lits [32] (by decide +kernel) (by decide))
  rw [show sType ++ ⟨#[32]⟩ = (⟨#[116, 121, 112, 101, 32]⟩ : ByteArray) by decide +kernel] at w0
  have o := lits (x := ⟨#[32, 123, 10]⟩) [32, 123, 10] (by decide +kernel) (by decide)
  have lo := lows (x := ⟨#[32, 123, 10]⟩) (c := 32) (l := [123, 10]) (by decide +kernel) (.inl rfl)
  have e := lits (x := ⟨#[125, 10]⟩) [125, 10] (by decide +kernel) (by decide)
  have h := (((w0.appW (word8 g.name.1)).appS lo o).appS lb).appS e
  refine ⟨_, ⟨g.name, b, hb, rfl⟩, ?_⟩
  have hk : [(1, sType)] ++ litK [32] ++ [(1, t.name)] ++ litK [32, 123, 10] ++ b ++ litK [125, 10] = (1, sType) :: (1, t.name) :: (2, sg 123) :: (b ++ [(2, sg 125)]) := rfl
  rw [hk] at h
  exact h
theorem show8 : ∀ T : List TypP, (∀ t ∈ T, TypG t) → ∃ ks, TypsKs T ks ∧ Ls (showS T) ks
  | [], _ => ⟨[], rfl, empty8⟩
  | t :: r, h => by
    obtain ⟨b, hb, lb⟩ := show8 r fun y hy => h y (List.mem_cons_of_mem _ hy)
    obtain ⟨a, ha, la⟩ := typ8 (h t List.mem_cons_self)
    exact ⟨_, ⟨a, b, rfl, ha, hb⟩, la.appS lb⟩
/-- What is shown says the same. -/
theorem parse_back {T : List TypP} (h : ∀ t ∈ T, TypG t) (hz : (showS T).size ≤ 2048) : parseS (showS T) = (T, 0, 0) := by
  obtain ⟨ks, hk, hv, hl⟩ := show8 T h
  obtain ⟨ts, h1, h2⟩ := hl ⟨#[]⟩ 0
  rw [app_nil, scan_nil (u := ⟨#[]⟩) rfl] at h2
  have ha : allS (showS T) = scan (showS T) 0 := all_ok hz hv (by rw [h2])
  unfold parseS
  rw [ha, h2, if_pos rfl]
  exact back_schema hk h1
theorem parse_long {s : ByteArray} (hz : 2048 < s.size) : parseS s = ([], 13, 0) := by
  have : allS s = ([], 13, 0) := by unfold allS; rw [if_pos hz]
  unfold parseS
  rw [this]
  rfl
end Go.Proofs.Ytkeonempmchpnaa
