/- Layer 8: a rewrite that is written out behind 'is', in a schema of one relation: what is told of it. Conditions: names of fewer than ninety-seven bytes, at most twenty operations. -/
import Derived.Test.YtkeonempmchpnaaSignsF
import Derived.Test.YtkeonempmchpnaaBackS
import Derived.Test.YtkeonempmchpnaaSmlF
namespace Go.Proofs.Ytkeonempmchpnaa

/-- A tree whose names are these two. -/
def Ex.pl (a b : ByteArray) : Ex → Prop
  | .this => True
  | .same n => n = a
  | .via n m => n = b ∧ m = a
  | .bin k x y => (k = 4 ∨ k = 5 ∨ k = 6) ∧ x.pl a b ∧ y.pl a b
theorem Ex.pl_good {a b : ByteArray} : ∀ t : Ex, t.pl a b → t.good
  | .this, _ => trivial
  | .same _, _ => trivial
  | .via _ _, _ => trivial
  | .bin _ x y, h => ⟨h.1, Ex.pl_good x h.2.1, Ex.pl_good y h.2.2⟩
theorem Ex.pl_nm {a b : ByteArray} (ha : NmW a) (hb : NmW b) : ∀ t : Ex, t.pl a b → t.nm
  | .this, _ => trivial
  | .same n, h => by
    have e : n = a := h
    rw [e]
    exact ha
  | .via n m, h => by
    have e : n = b ∧ m = a := h
    rw [e.1, e.2]
    exact ⟨hb, ha⟩
  | .bin _ x y, h => ⟨Ex.pl_nm ha hb x h.2.1, Ex.pl_nm ha hb y h.2.2⟩
theorem Ex.pl_len {a b : ByteArray} : ∀ t : Ex, t.pl a b → t.ops.length + 1 = 2 * t.leaves ∧ 2 * t.pd + 1 ≤ t.ops.length
  | .this, _ => ⟨rfl, Nat.le_refl _⟩
  | .same _, _ => ⟨rfl, Nat.le_refl _⟩
  | .via _ _, _ => ⟨rfl, Nat.le_refl _⟩
  | .bin k x y, h => by
    obtain ⟨x1, x2⟩ := Ex.pl_len x h.2.1
    obtain ⟨y1, y2⟩ := Ex.pl_len y h.2.2
    have hx := x.deep_le_pd
    have hl : (Ex.bin k x y).ops.length = x.ops.length + y.ops.length + 1 := by
      show (x.ops ++ y.ops ++ [_]).length = _
      rw [List.length_append, List.length_append, List.length_singleton]
    have hd : (Ex.bin k x y).pd = (Ex.bin k x y).deep + 1 := rfl
    have hd2 : (Ex.bin k x y).deep ≤ x.deep + y.pd := by
      show max x.deep y.pd ≤ _
      omega
    have hd3 : (Ex.bin k x y).leaves = x.leaves + y.leaves := rfl
    rw [hl, hd, hd3]
    omega
theorem Ex.pl_size {a b : ByteArray} (ha : a.size < 97) (hb : b.size < 97) : ∀ t : Ex, t.pl a b → t.text.size + 5 ≤ 198 * t.leaves
  | .this, _ => by decide
  | .same n, h => by
    have e : n = a := h
    show n.size + 5 ≤ 198 * 1
    rw [e]
    omega
  | .via n m, h => by
    have e : n = b ∧ m = a := h
    show (n ++ ⟨#[46]⟩ ++ m).size + 5 ≤ 198 * 1
    rw [size_app, size_app, e.1, e.2]
    show b.size + 1 + a.size + 5 ≤ _
    omega
  | .bin k x y, h => by
    have h1 := Ex.pl_size ha hb x h.2.1
    have h2 := Ex.pl_size ha hb y h.2.2
    have hs : (sgnS k).size = 3 := by
      unfold sgnS
      split
      · rfl
      · split <;> rfl
    have hp : (parS y.sg y.text).size ≤ y.text.size + 2 := by
      unfold parS
      split
      · rw [size_app, size_app]
        show 1 + _ + 1 ≤ _
        omega
      · omega
    show (x.text ++ sgnS k ++ parS y.sg y.text).size + 5 ≤ 198 * (x.leaves + y.leaves)
    rw [size_app, size_app, hs]
    omega
theorem Ex.pl_names {a b : ByteArray} (ha : a.size < 97) (hb : b.size < 97) : ∀ t : Ex, t.pl a b → ∀ o ∈ t.ops, o.2.1.size ≤ 1000 ∧ o.2.2.size ≤ 1000
  | .this, _, o, ho => by
    rw [List.mem_singleton.1 ho]
    exact ⟨Nat.zero_le _, Nat.zero_le _⟩
  | .same n, h, o, ho => by
    have e : n = a := h
    rw [List.mem_singleton.1 ho, e]
    exact ⟨by show a.size ≤ 1000; omega, Nat.zero_le _⟩
  | .via n m, h, o, ho => by
    have e : n = b ∧ m = a := h
    rw [List.mem_singleton.1 ho, e.1, e.2]
    exact ⟨by show b.size ≤ 1000; omega, by show a.size ≤ 1000; omega⟩
  | .bin k x y, h, o, ho => by
    rcases List.mem_append.1 ho with ho | ho
    · rcases List.mem_append.1 ho with ho | ho
      · exact Ex.pl_names ha hb x h.2.1 o ho
      · exact Ex.pl_names ha hb y h.2.2 o ho
    · rw [List.mem_singleton.1 ho]
      exact ⟨Nat.zero_le _, Nat.zero_le _⟩
/-- The text that the law writes. -/
def opHead : ByteArray := ⟨#[116, 121, 112, 101, 32, 116, 32, 123, 32, 114, 101, 108, 32, 114, 32, 40, 114, 44, 32, 114, 44, 32, 114, 41, 58, 32, 105, 115, 32]⟩
def opTail : ByteArray := ⟨#[59, 32, 125]⟩
def opT8 (x : ByteArray) : ByteArray := opHead ++ x ++ opTail
def ksO (t : Ex) : List KT :=
  [(1, sType), (1, wt_), (2, sg 123), (1, sRel), (1, wr_), (2, sg 40), (1, wr_), (2, sg 44), (1, wr_), (2, sg 44), (1, wr_), (2, sg 41), (2, sg 58), (1, sIs)] ++ tkX t ++ [(2, sg 59), (2, sg 125)]
theorem opHead8 : Ls opHead [(1, sType), (1, wt_), (2, sg 123), (1, sRel), (1, wr_), (2, sg 40), (1, wr_), (2, sg 44), (1, wr_), (2, sg 44), (1, wr_), (2, sg 41), (2, sg 58), (1, sIs)] := by
  have b := lits (x := ⟨#[32]⟩) [32] (by decide +kernel) (by decide)
  have lb := lows (x := ⟨#[32]⟩) (c := 32) (l := []) (by decide +kernel) (.inl rfl)
  have w1 := (word8 (x := sType) (by decide +kernel)).appS lb b
  have w2 := (word8 (x := wt_) (by decide +kernel)).appS (lows (x := ⟨#[32, 123, 32]⟩) (c := 32) (l := [123, 32]) (by decide +kernel) (.inl rfl)) (lits [32, 123, 32] (by decide +kernel) (by decide))
  have w3 := (word8 (x := sRel) (by decide +kernel)).appS lb b
  have w4 := (word8 (x := wr_) (by decide +kernel)).appS (lows (x := ⟨#[32, 40]⟩) (c := 32) (l := [40]) (by decide +kernel) (.inl rfl)) (lits [32, 40] (by decide +kernel) (by decide))
  have w5 := (word8 (x := wr_) (by decide +kernel)).appS (lows (x := ⟨#[44, 32]⟩) (c := 44) (l := [32]) (by decide +kernel) (.inr rfl)) (lits [44, 32] (by decide +kernel) (by decide))
  have w6 := (word8 (x := wr_) (by decide +kernel)).appS (lows (x := ⟨#[41, 58, 32]⟩) (c := 41) (l := [58, 32]) (by decide +kernel) (.inr rfl)) (lits [41, 58, 32] (by decide +kernel) (by decide))
  have w7 := (word8 (x := sIs) (by decide +kernel)).appS lb b
  have h := w1.appS (w2.appS (w3.appS (w4.appS (w5.appS (w5.appS (w6.appS w7))))))
  exact h
theorem opT8_scan {t : Ex} (hg : t.good) (hn : t.nm) : Ls (opT8 t.text) (ksO t) :=
  (opHead8.appW (text8 t hg hn)).appS (lows (x := opTail) (c := 59) (l := [32, 125]) (by decide +kernel) (.inr rfl)) (lits [59, 32, 125] (by decide +kernel) (by decide))
def oneR (t : Ex) : List TypP := [⟨wt_, [⟨wr_, wr_, wr_, wr_, [], t.ops⟩]⟩]
theorem wr_no : keyB wr_ = false := by decide +kernel
theorem wt_no : keyB wt_ = false := by decide +kernel
theorem one_schema {t : Ex} (hg : t.good) (hn : t.nm) (hd : t.deep ≤ 8) {ts : List Tk} {q : Nat} (h : Km ts (ksO t)) : outS (schemaF (ts ++ [(3, ⟨#[]⟩, q)])) = (oneR t, 0, 0) := by
  obtain ⟨t1, t2, rfl, h1, h2⟩ := km_app h
  obtain ⟨t3, t4, rfl, h3, h4⟩ := km_app h1
  obtain ⟨p1, r1, rfl, h11⟩ := km_cons h3
  obtain ⟨p2, r2, rfl, h12⟩ := km_cons h11
  obtain ⟨p3, r3, rfl, h13⟩ := km_cons h12
  obtain ⟨p4, r4, rfl, h14⟩ := km_cons h13
  obtain ⟨p5, r5, rfl, h15⟩ := km_cons h14
  obtain ⟨p6, r6, rfl, h16⟩ := km_cons h15
  obtain ⟨p7, r7, rfl, h17⟩ := km_cons h16
  obtain ⟨p8, r8, rfl, h18⟩ := km_cons h17
  obtain ⟨p9, r9, rfl, h19⟩ := km_cons h18
  obtain ⟨pa, ra, rfl, h1a⟩ := km_cons h19
  obtain ⟨pb, rb, rfl, h1b⟩ := km_cons h1a
  obtain ⟨pc, rc, rfl, h1c⟩ := km_cons h1b
  obtain ⟨pd, rd, rfl, h1d⟩ := km_cons h1c
  obtain ⟨pe, re, rfl, h1e⟩ := km_cons h1d
  have he := km_nil h1e
  subst he
  obtain ⟨q1, s1, rfl, h21⟩ := km_cons h2
  obtain ⟨q2, s2, rfl, h22⟩ := km_cons h21
  have he := km_nil h22
  subst he
  rw [schemaF_eq]
  have e : (1, sType, p1) :: (1, wt_, p2) :: (2, sg 123, p3) :: (1, sRel, p4) :: (1, wr_, p5) :: (2, sg 40, p6) :: (1, wr_, p7) :: (2, sg 44, p8) :: (1, wr_, p9) :: (2, sg 44, pa) :: (1, wr_, pb) :: (2, sg 41, pc) :: (2, sg 58, pd) :: (1, sIs, pe) :: (t4 ++ (2, sg 59, q1) :: (2, sg 125, q2) :: [(3, ⟨#[]⟩, q)]) = [(1, sType, p1), (1, wt_, p2), (2, sg 123, p3), (1, sRel, p4), (1, wr_, p5), (2, sg 40, p6), (1, wr_, p7), (2, sg 44, p8), (1, wr_, p9), (2, sg 44, pa), (1, wr_, pb), (2, sg 41, pc), (2, sg 58, pd), (1, sIs, pe)] ++ t4 ++ [(2, sg 59, q1), (2, sg 125, q2)] ++ [(3, ⟨#[]⟩, q)] := by simp
  rw [← e]
  rw [typesT_eq, if_pos (isT_same (.inr (by decide +kernel)))]
  show outS (andT (andT (nameT ((1, wt_, p2) :: _)) _) _) = _
  rw [nameW wt_no, andT_ok, needW (.inl rfl), andT_ok, relsT_eq, if_pos (isT_same (.inr (by decide +kernel)))]
  have hr : ∀ l, relT ((1, wr_, p5) :: (2, sg 40, p6) :: (1, wr_, p7) :: (2, sg 44, p8) :: (1, wr_, p9) :: (2, sg 44, pa) :: (1, wr_, pb) :: (2, sg 41, pc) :: (2, sg 58, pd) :: (1, sIs, pe) :: (t4 ++ (2, sg 59, q1) :: l)) = .ok (⟨wr_, wr_, wr_, wr_, [], t.ops⟩, l) := by
    intro l
    unfold relT
    rw [nameW wr_no, andT_ok, needW (.inl rfl), andT_ok, nameW wr_no, andT_ok, needW (.inl rfl), andT_ok, nameW wr_no, andT_ok, needW (.inl rfl), andT_ok, nameW wr_no, andT_ok, needW (.inl rfl), andT_ok, needW (.inl rfl), andT_ok, if_pos (.inl (isT_same (.inr kIs))), andT_ok, if_pos (isT_same (.inr kIs))]
    show andT (rewT 0 (t4 ++ (2, sg 59, q1) :: l)) _ = _
    rw [(back_tree t hg hn).1 0 _ t4 (by omega) h4 (key_no (by decide +kernel)), moreT_eq, show opT ((2, sg 59, q1) :: l) = 0 by unfold opT; rw [isT_hd, isT_hd, isT_hd]; decide +kernel, if_pos rfl, andT_ok, needW (.inl rfl), andT_ok]
  show outS (andT (andT (andT (relT ((1, wr_, p5) :: _)) _) _) _) = _
  rw [hr, andT_ok, relsT_eq, if_neg (by rw [key_no (by decide +kernel)]; decide), andT_ok, needW (.inl rfl), andT_ok, typesT_eq, if_neg (by rw [key_no (by decide +kernel)]; decide), andT_ok]
  rfl
theorem parse_ops8 {t : Ex} (hg : t.good) (hn : t.nm) (hd : t.deep ≤ 8) (hz : (opT8 t.text).size ≤ 2048) : parseS (opT8 t.text) = (oneR t, 0, 0) := by
  obtain ⟨hv, hl⟩ := opT8_scan hg hn
  obtain ⟨ts, h1, h2⟩ := hl ⟨#[]⟩ 0
  rw [app_nil, scan_nil (u := ⟨#[]⟩) rfl] at h2
  have ha : allS (opT8 t.text) = scan (opT8 t.text) 0 := all_ok hz hv (by rw [h2])
  unfold parseS
  rw [ha, h2, if_pos rfl]
  exact one_schema hg hn hd h1
theorem parse_opsN {a b : ByteArray} (ha : NmW a) (hb : NmW b) (za : a.size < 97) (zb : b.size < 97) {t : Ex} (h : t.pl a b) (hl : t.ops.length ≤ 20) : parseS (opT8 t.text) = (oneR t, 0, 0) ∧ (opT8 t.text).size ≤ 2048 := by
  obtain ⟨h1, h2⟩ := Ex.pl_len t h
  have h3 := Ex.pl_size za zb t h
  have hz : (opT8 t.text).size ≤ 2048 := by
    unfold opT8
    rw [size_app, size_app]
    show 29 + _ + 3 ≤ _
    omega
  have hd : t.deep ≤ 8 := by
    cases t with
    | bin k x y =>
      have : (Ex.bin k x y).pd = (Ex.bin k x y).deep + 1 := rfl
      omega
    | _ => exact Nat.zero_le _
  exact ⟨parse_ops8 (Ex.pl_good t h) (Ex.pl_nm ha hb t h) hd hz, hz⟩
/-- The law's name. -/
def nmT8 (s : ByteArray) : ByteArray := ⟨#[116, 121, 112, 101, 32]⟩ ++ s ++ ⟨#[32, 123, 125]⟩
def nmB8 (s : ByteArray) : Bool := match parseS (nmT8 s) with
  | ([t], 0, _) => decide (t.name = s) && decide (s.size < 97)
  | _ => false
theorem nmB8_yes {s : ByteArray} (h : nmB8 s = true) : NmW s ∧ s.size < 97 := by
  unfold nmB8 at h
  have hg := parse_goodT (nmT8 s)
  split at h
  · rename_i t p e
    rw [e] at hg
    rw [Bool.and_eq_true] at h
    have hn := (hg t (List.mem_singleton.2 rfl)).name
    rw [of_decide_eq_true h.1] at hn
    exact ⟨hn, of_decide_eq_true h.2⟩
  · cases h
end Go.Proofs.Ytkeonempmchpnaa
