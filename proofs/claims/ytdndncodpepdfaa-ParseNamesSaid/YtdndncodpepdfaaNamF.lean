/- Whatever names stand in a relation: they are told in their places; a key in place of one is refused, there; which texts are names. Conditions: names are names. -/
import Derived.Test.YtdndncodpepdfaaLeftF
import Derived.Test.YtdndncodpepdfaaWordsF
namespace Go.Proofs.Ytdndncodpepdfaa

theorem name_bad {x : Tk} {l : List Tk} (h : keyB x.2.1 = true) : nameT (x :: l) = .error (30, x.2.2) := by
  unfold nameT
  rw [if_neg (by rintro ⟨_, h2⟩; rw [show (hdT (x :: l)) = x from rfl, h] at h2; cases h2)]
  rfl
/-- The tokens of a text with eight names, wherever they stand. -/
def nmT (q : Nat → Nat) (a b c d e f g h : ByteArray) (p : Nat → Nat) : List Tk :=
  [(1, sType, q 0), (1, a, p 0), (2, sOne 123, q 1), (1, sRel, q 2), (1, b, p 1), (2, sOne 40, q 3), (1, c, p 2), (2, sOne 44, q 4), (1, d, p 3), (2, sOne 44, q 5), (1, e, p 4),
   (2, sOne 41, q 6), (2, sOne 58, q 7), (1, f, p 5), (2, sOne 35, q 8), (1, g, p 6), (1, sIs, q 9), (1, h, p 7), (2, sOne 59, q 10), (2, sOne 125, q 11), (3, ⟨#[]⟩, q 12)]
theorem free_not {x y : ByteArray} (hx : keyB x = false) (hy : keyB y = true) (k p : Nat) (l : List Tk) : ¬ isT y ((k, x, p) :: l) = true := by
  intro h
  have : x = y := (of_decide_eq_true h).1
  rw [this, hy] at hx
  cases hx
theorem word_not {x y : ByteArray} (hy : keyB y = false) (p : Nat) (l : List Tk) : ¬ isT y ((1, x, p) :: l) = true := by
  intro h
  rcases (of_decide_eq_true h).2 with h2 | h2
  · cases h2
  · rw [hy] at h2; cases h2
theorem keyT {x : ByteArray} (hx : keyB x = true) (p : Nat) (l : List Tk) : isT x ((1, x, p) :: l) = true := decide_eq_true ⟨rfl, .inr hx⟩
theorem sign_not {c d : Nat} (h : ¬ sOne c = sg d.toUInt8) (p : Nat) (l : List Tk) : ¬ isT (sg d.toUInt8) ((2, sOne c, p) :: l) = true := fun h2 => h (of_decide_eq_true h2).1
section
variable {q p : Nat → Nat} {a b c d e f g h : ByteArray}
theorem nm_types : schemaF (nmT q a b c d e f g h p) = andT (andT (nameT ((nmT q a b c d e f g h p).drop 1)) fun n r => andT (needT (sg 123) r) fun _ r => andT (relsT [] r) fun rs r => andT (needT (sg 125) r) fun _ r => typesT [⟨n, rs⟩] r) fun t r => if (hdT r).1 = 3 then .ok (t, r) else badT 30 r := by
  rw [schemaF_eq, typesT_eq, if_pos (show isT sType (nmT q a b c d e f g h p) = true from rfl)]
  rfl
theorem nm_rels (ha : keyB a = false) : schemaF (nmT q a b c d e f g h p) = andT (andT (andT (relT ((nmT q a b c d e f g h p).drop 4)) fun x r => relsT [x] r) fun rs r => andT (needT (sg 125) r) fun _ r => typesT [⟨a, rs⟩] r) fun t r => if (hdT r).1 = 3 then .ok (t, r) else badT 30 r := by
  rw [nm_types]
  unfold nmT
  simp only [List.drop_succ_cons, List.drop_zero]
  rw [name_ok ⟨rfl, ha⟩, andT_ok, need_ok rfl, andT_ok, relsT_eq, if_pos (keyT (x := sRel) rfl _ _)]
  rfl
/-- Behind a relation's colon: who, and the rewrite. -/
def nmR (q : Nat → Nat) (f g h : ByteArray) (p : Nat → Nat) : List Tk := [(1, f, p 5), (2, sOne 35, q 8), (1, g, p 6), (1, sIs, q 9), (1, h, p 7), (2, sOne 59, q 10), (2, sOne 125, q 11), (3, ⟨#[]⟩, q 12)]
theorem nm_rel1 (hb : keyB b = true) : relT ((nmT q a b c d e f g h p).drop 4) = .error (30, p 1) := by
  unfold relT nmT
  simp only [List.drop_succ_cons, List.drop_zero]
  iterate 0 (first | rw [name_ok ⟨rfl, by assumption⟩, andT_ok] | rw [need_ok rfl, andT_ok])
  rw [name_bad (by assumption)]
  rfl
theorem nm_rel2 (hb : keyB b = false) (hc : keyB c = true) : relT ((nmT q a b c d e f g h p).drop 4) = .error (30, p 2) := by
  unfold relT nmT
  simp only [List.drop_succ_cons, List.drop_zero]
  iterate 2 (first | rw [name_ok ⟨rfl, by assumption⟩, andT_ok] | rw [need_ok rfl, andT_ok])
  rw [name_bad (by assumption)]
  rfl
theorem nm_rel3 (hb : keyB b = false) (hc : keyB c = false) (hd : keyB d = true) : relT ((nmT q a b c d e f g h p).drop 4) = .error (30, p 3) := by
  unfold relT nmT
  simp only [List.drop_succ_cons, List.drop_zero]
  iterate 4 (first | rw [name_ok ⟨rfl, by assumption⟩, andT_ok] | rw [need_ok rfl, andT_ok])
  rw [name_bad (by assumption)]
  rfl
theorem nm_rel4 (hb : keyB b = false) (hc : keyB c = false) (hd : keyB d = false) (he : keyB e = true) : relT ((nmT q a b c d e f g h p).drop 4) = .error (30, p 4) := by
  unfold relT nmT
  simp only [List.drop_succ_cons, List.drop_zero]
  iterate 6 (first | rw [name_ok ⟨rfl, by assumption⟩, andT_ok] | rw [need_ok rfl, andT_ok])
  rw [name_bad (by assumption)]
  rfl
theorem nm_relW (hb : keyB b = false) (hc : keyB c = false) (hd : keyB d = false) (he : keyB e = false) (hf : isT sIs (nmR q f g h p) = false) : relT ((nmT q a b c d e f g h p).drop 4) =
    andT (whoT [] (nmR q f g h p)) fun w r =>
      andT (if isT sIs r = true then rewT 0 r.tail else .ok ([(1, ⟨#[]⟩, ⟨#[]⟩)], r)) fun o r =>
      andT (needT (sg 59) r) fun _ r => .ok (⟨b, c, d, e, w, o⟩, r) := by
  unfold relT nmT
  simp only [List.drop_succ_cons, List.drop_zero]
  iterate 9 (first | rw [name_ok ⟨rfl, by assumption⟩, andT_ok] | rw [need_ok rfl, andT_ok])
  unfold nmR at hf ⊢
  rw [if_neg (by
    rintro (h1 | h1)
    · rw [hf] at h1; cases h1
    · exact word_not (by decide +kernel) _ _ h1)]
theorem nm_who5 (hf : keyB f = true) : whoT [] (nmR q f g h p) = .error (30, p 5) := by
  unfold nmR
  rw [whoT_eq, name_bad hf]
  rfl
theorem nm_who6 (hf : keyB f = false) (hg : keyB g = true) : whoT [] (nmR q f g h p) = .error (30, p 6) := by
  unfold nmR
  rw [whoT_eq, name_ok ⟨rfl, hf⟩, andT_ok, if_pos (show isT (sg 35) ((2, sOne 35, q 8) :: _) = true from rfl)]
  simp only [List.tail_cons]
  rw [name_bad hg]
  rfl
theorem nm_who (hf : keyB f = false) (hg : keyB g = false) : whoT [] (nmR q f g h p) = .ok ([(f, g)], (nmR q f g h p).drop 3) := by
  unfold nmR
  rw [whoT_eq, name_ok ⟨rfl, hf⟩, andT_ok, if_pos (show isT (sg 35) ((2, sOne 35, q 8) :: _) = true from rfl)]
  simp only [List.tail_cons]
  rw [name_ok ⟨rfl, hg⟩, andT_ok, if_neg (word_not (by decide +kernel) _ _)]
  rfl
theorem nm_rew7 (hh : keyB h = true) (ht : ¬ h = sThis) : rewT 0 ((nmR q f g h p).drop 4) = .error (30, p 7) := by
  unfold rewT nmR
  simp only [List.drop_succ_cons, List.drop_zero]
  rw [partT_eq, if_neg (show ¬ isT sThis ((1, h, p 7) :: _) = true from fun h1 => ht (of_decide_eq_true h1).1), if_neg (word_not (by decide +kernel) _ _), name_bad hh]
  rfl
theorem nm_rew (hh : keyB h = false) : rewT 0 ((nmR q f g h p).drop 4) = .ok ([(2, h, ⟨#[]⟩)], (nmR q f g h p).drop 5) := by
  unfold rewT nmR
  simp only [List.drop_succ_cons, List.drop_zero]
  rw [partT_eq, if_neg (free_not hh (by decide +kernel) _ _ _), if_neg (word_not (by decide +kernel) _ _), name_ok ⟨rfl, hh⟩, andT_ok, if_neg (by intro h; cases h), andT_ok, moreT_eq, if_pos (show opT ((2, sOne 59, q 10) :: _) = 0 from rfl)]
theorem not_isT {x y : ByteArray} (h : ¬ x = y) (k n : Nat) (l : List Tk) : isT y ((k, x, n) :: l) = false := decide_eq_false fun h1 => h h1.1
theorem nm_says (ha : keyB a = false) (hb : keyB b = false) (hc : keyB c = false) (hd : keyB d = false) (he : keyB e = false) (hf : keyB f = false) (hg : keyB g = false) (hh : keyB h = false) :
    outS (schemaF (nmT q a b c d e f g h p)) = ([⟨a, [⟨b, c, d, e, [(f, g)], [(2, h, ⟨#[]⟩)]⟩]⟩], 0, 0) := by
  have hfi : ¬ f = sIs := by
    intro e1
    rw [e1] at hf
    cases hf
  rw [nm_rels ha, nm_relW hb hc hd he (not_isT hfi _ _ _), nm_who hf hg, andT_ok]
  rw [if_pos (show isT sIs ((nmR q f g h p).drop 3) = true from rfl)]
  rw [show ((nmR q f g h p).drop 3).tail = (nmR q f g h p).drop 4 from rfl, nm_rew hh, andT_ok]
  unfold nmR
  simp only [List.drop_succ_cons, List.drop_zero]
  rw [need_ok rfl, andT_ok, andT_ok]
  rw [relsT_eq, if_neg (show ¬ isT sRel ((2, sOne 125, q 11) :: _) = true from by intro h; cases h), andT_ok, need_ok rfl, andT_ok]
  rw [typesT_eq, if_neg (show ¬ isT sType [((3, ⟨#[]⟩, q 12) : Tk)] = true from by intro h; cases h), andT_ok]
  rfl
/-- The key that is put in place of a name. -/
theorem nm_bad0 : outS (schemaF (nmT q sType b c d e f g h p)) = ([], 30, p 0) := by
  rw [nm_types]
  unfold nmT
  simp only [List.drop_succ_cons, List.drop_zero]
  rw [name_bad rfl]
  rfl
theorem nm_bad1 (ha : keyB a = false) : outS (schemaF (nmT q a sType c d e f g h p)) = ([], 30, p 1) := by rw [nm_rels ha, nm_rel1 rfl]; rfl
theorem nm_bad2 (ha : keyB a = false) (hb : keyB b = false) : outS (schemaF (nmT q a b sType d e f g h p)) = ([], 30, p 2) := by rw [nm_rels ha, nm_rel2 hb rfl]; rfl
theorem nm_bad3 (ha : keyB a = false) (hb : keyB b = false) (hc : keyB c = false) : outS (schemaF (nmT q a b c sType e f g h p)) = ([], 30, p 3) := by rw [nm_rels ha, nm_rel3 hb hc rfl]; rfl
theorem nm_bad4 (ha : keyB a = false) (hb : keyB b = false) (hc : keyB c = false) (hd : keyB d = false) : outS (schemaF (nmT q a b c d sType f g h p)) = ([], 30, p 4) := by rw [nm_rels ha, nm_rel4 hb hc hd rfl]; rfl
theorem nm_bad5 (ha : keyB a = false) (hb : keyB b = false) (hc : keyB c = false) (hd : keyB d = false) (he : keyB e = false) : outS (schemaF (nmT q a b c d e sType g h p)) = ([], 30, p 5) := by
  rw [nm_rels ha, nm_relW hb hc hd he (not_isT (by decide +kernel) _ _ _), nm_who5 rfl]; rfl
theorem nm_bad6 (ha : keyB a = false) (hb : keyB b = false) (hc : keyB c = false) (hd : keyB d = false) (he : keyB e = false) (hf : keyB f = false) : outS (schemaF (nmT q a b c d e f sType h p)) = ([], 30, p 6) := by
  have hfi : ¬ f = sIs := by
    intro e1
    rw [e1] at hf
    cases hf
  rw [nm_rels ha, nm_relW hb hc hd he (not_isT hfi _ _ _), nm_who6 hf rfl]; rfl
theorem nm_bad7 (ha : keyB a = false) (hb : keyB b = false) (hc : keyB c = false) (hd : keyB d = false) (he : keyB e = false) (hf : keyB f = false) (hg : keyB g = false) : outS (schemaF (nmT q a b c d e f g sType p)) = ([], 30, p 7) := by
  have hfi : ¬ f = sIs := by
    intro e1
    rw [e1] at hf
    cases hf
  rw [nm_rels ha, nm_relW hb hc hd he (not_isT hfi _ _ _), nm_who hf hg, andT_ok]
  rw [if_pos (show isT sIs ((nmR q f g sType p).drop 3) = true from rfl)]
  rw [show ((nmR q f g sType p).drop 3).tail = (nmR q f g sType p).drop 4 from rfl, nm_rew7 rfl (by decide +kernel)]
  rfl
end
end Go.Proofs.Ytdndncodpepdfaa

namespace Go.Proofs.Ytdndncodpepdfaa

def lT : ByteArray := sType ++ sOne 32
def lA : ByteArray := sOne 32 ++ (sOne 123 ++ (sOne 32 ++ (sRel ++ sOne 32)))
def lB : ByteArray := sOne 32 ++ (sOne 40 ++ sOne 32)
def lC : ByteArray := sOne 32 ++ (sOne 44 ++ sOne 32)
def lE : ByteArray := sOne 32 ++ (sOne 41 ++ (sOne 32 ++ (sOne 58 ++ sOne 32)))
def lF : ByteArray := sOne 32 ++ (sOne 35 ++ sOne 32)
def lG : ByteArray := sOne 32 ++ (sIs ++ sOne 32)
def lH : ByteArray := sOne 32 ++ (sOne 59 ++ (sOne 32 ++ sOne 125))
def nmS (a b c d e f g h : ByteArray) : ByteArray := lT ++ a ++ lA ++ b ++ lB ++ c ++ lC ++ d ++ lC ++ e ++ lE ++ f ++ lF ++ g ++ lG ++ h ++ lH
/-- A text stands there, not ahead of five. -/
def At (s x : ByteArray) (n : Nat) : Prop := ∃ A r, s = A ++ (x ++ r) ∧ n = 0 + A.size ∧ 5 ≤ n
theorem Lx.step {w x l : ByteArray} {ts us : Nat → List Tk} (hw : Lx w ts) (hx : nameS x = true) (hl : Lx l us) : Lx (w ++ x ++ (sOne 32 ++ l)) fun off => ts off ++ ((1, x, off + w.size) :: us (off + w.size + (x ++ sOne 32).size)) := by
  have h := hw.app ((Lx.word hx (.inl rfl) (Lx.blank (c := 32) rfl)).app hl)
  rw [app_assoc x, ← app_assoc w] at h
  exact h
theorem Lx.whole {w : ByteArray} {ts : Nat → List Tk} (h : Lx w ts) : scan w 0 = (ts 0 ++ [(3, ⟨#[]⟩, 0 + w.size)], 0, 0) := by
  have e := h.2 ⟨#[]⟩ 0
  rw [app_nil, scan_nil (u := ⟨#[]⟩) rfl] at e
  exact e
theorem pairT {l m : List Tk} {x : ByteArray} (e : scan x 0 = (l, 0, 0)) (h : l = m) : scan x 0 = (m, 0, 0) := by rw [e, h]
theorem nmT_of (a b c d e f g h : ByteArray) (p0 p1 p2 p3 p4 p5 p6 p7 q0 q1 q2 q3 q4 q5 q6 q7 q8 q9 q10 q11 q12 : Nat) :
  [(1, sType, q0), (1, a, p0), (2, sOne 123, q1), (1, sRel, q2), (1, b, p1), (2, sOne 40, q3), (1, c, p2), (2, sOne 44, q4), (1, d, p3), (2, sOne 44, q5), (1, e, p4),
   (2, sOne 41, q6), (2, sOne 58, q7), (1, f, p5), (2, sOne 35, q8), (1, g, p6), (1, sIs, q9), (1, h, p7), (2, sOne 59, q10), (2, sOne 125, q11), (3, ⟨#[]⟩, q12)] =
    nmT (fun k => [q0, q1, q2, q3, q4, q5, q6, q7, q8, q9, q10, q11, q12].getD k 0) a b c d e f g h (fun k => [p0, p1, p2, p3, p4, p5, p6, p7].getD k 0) := rfl
section
variable {a b c d e f g h : ByteArray}
theorem nm_scan (ha : nameS a = true) (hb : nameS b = true) (hc : nameS c = true) (hd : nameS d = true) (he : nameS e = true) (hf : nameS f = true) (hg : nameS g = true) (hh : nameS h = true) :
    ∃ q p, validS (nmS a b c d e f g h) = true ∧ scan (nmS a b c d e f g h) 0 = (nmT q a b c d e f g h p, 0, 0) ∧ At (nmS a b c d e f g h) a (p 0) ∧ At (nmS a b c d e f g h) b (p 1) ∧ At (nmS a b c d e f g h) c (p 2) ∧ At (nmS a b c d e f g h) d (p 3) ∧ At (nmS a b c d e f g h) e (p 4) ∧ At (nmS a b c d e f g h) f (p 5) ∧ At (nmS a b c d e f g h) g (p 6) ∧ At (nmS a b c d e f g h) h (p 7) := by
  have hB : Lx (sOne 32) fun _ => [] := Lx.blank rfl
  have wT := Lx.word (x := sType) (c := 32) (by decide +kernel) (.inl rfl) hB
  have wR := Lx.word (x := sRel) (c := 32) (by decide +kernel) (.inl rfl) hB
  have wI := Lx.word (x := sIs) (c := 32) (by decide +kernel) (.inl rfl) hB
  have L := (((((((wT.step ha ((Lx.sign (c := 123) rfl).app (hB.app wR))).step hb ((Lx.sign (c := 40) rfl).app hB)).step hc ((Lx.sign (c := 44) rfl).app hB)).step hd ((Lx.sign (c := 44) rfl).app hB)).step he ((Lx.sign (c := 41) rfl).app (hB.app ((Lx.sign (c := 58) rfl).app hB)))).step hf ((Lx.sign (c := 35) rfl).app hB)).step hg wI).step hh ((Lx.sign (c := 59) rfl).app (hB.app (Lx.sign (c := 125) rfl)))
  have e1 := L.whole
  simp only [List.cons_append, List.nil_append] at e1
  have e2 : ∃ q, scan (nmS a b c d e f g h) 0 = (nmT q a b c d e f g h (fun k => [0 + (lT).size, 0 + (lT ++ a ++ lA).size, 0 + (lT ++ a ++ lA ++ b ++ lB).size, 0 + (lT ++ a ++ lA ++ b ++ lB ++ c ++ lC).size, 0 + (lT ++ a ++ lA ++ b ++ lB ++ c ++ lC ++ d ++ lC).size, 0 + (lT ++ a ++ lA ++ b ++ lB ++ c ++ lC ++ d ++ lC ++ e ++ lE).size, 0 + (lT ++ a ++ lA ++ b ++ lB ++ c ++ lC ++ d ++ lC ++ e ++ lE ++ f ++ lF).size, 0 + (lT ++ a ++ lA ++ b ++ lB ++ c ++ lC ++ d ++ lC ++ e ++ lE ++ f ++ lF ++ g ++ lG).size].getD k 0), 0, 0) := by
    unfold nmS lT lA lB lC lE lF lG lH
    exact ⟨_, pairT e1 (nmT_of a b c d e f g h _ _ _ _ _ _ _ _ _ _ _ _ _ _ _ _ _ _ _ _ _)⟩
  have v : validS (nmS a b c d e f g h) = true := by
    unfold nmS lT lA lB lC lE lF lG lH
    exact L.1
  clear L e1
  obtain ⟨q, e2⟩ := e2
  refine ⟨q, _, v, e2, ?_, ?_, ?_, ?_, ?_, ?_, ?_, ?_⟩
  all_goals simp only [List.getD_cons_zero, List.getD_cons_succ]
  · refine ⟨lT, lA ++ (b ++ (lB ++ (c ++ (lC ++ (d ++ (lC ++ (e ++ (lE ++ (f ++ (lF ++ (g ++ (lG ++ (h ++ lH))))))))))))), by unfold nmS; simp only [app_assoc], rfl, ?_⟩
    show 5 ≤ 0 + (lT).size
    have : lT.size = 5 := rfl
    try simp only [size_app]
    omega
  · refine ⟨lT ++ a ++ lA, lB ++ (c ++ (lC ++ (d ++ (lC ++ (e ++ (lE ++ (f ++ (lF ++ (g ++ (lG ++ (h ++ lH))))))))))), by unfold nmS; simp only [app_assoc], rfl, ?_⟩
    show 5 ≤ 0 + (lT ++ a ++ lA).size
    have : lT.size = 5 := rfl
    try simp only [size_app]
    omega
  · refine ⟨lT ++ a ++ lA ++ b ++ lB, lC ++ (d ++ (lC ++ (e ++ (lE ++ (f ++ (lF ++ (g ++ (lG ++ (h ++ lH))))))))), by unfold nmS; simp only [app_assoc], rfl, ?_⟩
    show 5 ≤ 0 + (lT ++ a ++ lA ++ b ++ lB).size
    have : lT.size = 5 := rfl
    try simp only [size_app]
    omega
  · refine ⟨lT ++ a ++ lA ++ b ++ lB ++ c ++ lC, lC ++ (e ++ (lE ++ (f ++ (lF ++ (g ++ (lG ++ (h ++ lH))))))), by unfold nmS; simp only [app_assoc], rfl, ?_⟩
    show 5 ≤ 0 + (lT ++ a ++ lA ++ b ++ lB ++ c ++ lC).size
    have : lT.size = 5 := rfl
    try simp only [size_app]
    omega
  · refine ⟨lT ++ a ++ lA ++ b ++ lB ++ c ++ lC ++ d ++ lC, lE ++ (f ++ (lF ++ (g ++ (lG ++ (h ++ lH))))), by unfold nmS; simp only [app_assoc], rfl, ?_⟩
    show 5 ≤ 0 + (lT ++ a ++ lA ++ b ++ lB ++ c ++ lC ++ d ++ lC).size
    have : lT.size = 5 := rfl
    try simp only [size_app]
    omega
  · refine ⟨lT ++ a ++ lA ++ b ++ lB ++ c ++ lC ++ d ++ lC ++ e ++ lE, lF ++ (g ++ (lG ++ (h ++ lH))), by unfold nmS; simp only [app_assoc], rfl, ?_⟩
    show 5 ≤ 0 + (lT ++ a ++ lA ++ b ++ lB ++ c ++ lC ++ d ++ lC ++ e ++ lE).size
    have : lT.size = 5 := rfl
    try simp only [size_app]
    omega
  · refine ⟨lT ++ a ++ lA ++ b ++ lB ++ c ++ lC ++ d ++ lC ++ e ++ lE ++ f ++ lF, lG ++ (h ++ lH), by unfold nmS; simp only [app_assoc], rfl, ?_⟩
    show 5 ≤ 0 + (lT ++ a ++ lA ++ b ++ lB ++ c ++ lC ++ d ++ lC ++ e ++ lE ++ f ++ lF).size
    have : lT.size = 5 := rfl
    try simp only [size_app]
    omega
  · refine ⟨lT ++ a ++ lA ++ b ++ lB ++ c ++ lC ++ d ++ lC ++ e ++ lE ++ f ++ lF ++ g ++ lG, lH, by unfold nmS; simp only [app_assoc], rfl, ?_⟩
    show 5 ≤ 0 + (lT ++ a ++ lA ++ b ++ lB ++ c ++ lC ++ d ++ lC ++ e ++ lE ++ f ++ lF ++ g ++ lG).size
    have : lT.size = 5 := rfl
    try simp only [size_app]
    omega
end
end Go.Proofs.Ytdndncodpepdfaa

namespace Go.Proofs.Ytdndncodpepdfaa

theorem At.spec {s x : ByteArray} {n : Nat} (h : At s x n) : 5 ≤ n ∧ n + x.size ≤ s.size ∧ ∀ j, j < x.size → bt s (n + j) = bt x j := by
  obtain ⟨A, r, e, hn, h5⟩ := h
  subst e
  rw [Nat.zero_add] at hn
  subst hn
  refine ⟨h5, by simp only [size_app]; omega, fun j hj => ?_⟩
  rw [bt_app_right _ _ _ (by rw [size_app]; omega), bt_app_left _ _ _ hj]
section
variable {a b c d e f g h : ByteArray}
theorem nm_size (ha : a.size ≤ 96) (hb : b.size ≤ 96) (hc : c.size ≤ 96) (hd : d.size ≤ 96) (he : e.size ≤ 96) (hf : f.size ≤ 96) (hg : g.size ≤ 96) (hh : h.size ≤ 96) : (nmS a b c d e f g h).size ≤ 900 := by
  have z0 : lT.size = 5 := rfl
  have z1 : lA.size = 7 := rfl
  have z2 : lB.size = 3 := rfl
  have z3 : lC.size = 3 := rfl
  have z4 : lE.size = 5 := rfl
  have z5 : lF.size = 3 := rfl
  have z6 : lG.size = 4 := rfl
  have z7 : lH.size = 4 := rfl
  unfold nmS
  simp only [size_app]
  omega
theorem nm_parse (ha : nameS a = true) (hb : nameS b = true) (hc : nameS c = true) (hd : nameS d = true) (he : nameS e = true) (hf : nameS f = true) (hg : nameS g = true) (hh : nameS h = true) :
    ∃ q p, parseS (nmS a b c d e f g h) = outS (schemaF (nmT q a b c d e f g h p)) ∧ At (nmS a b c d e f g h) a (p 0) ∧ At (nmS a b c d e f g h) b (p 1) ∧ At (nmS a b c d e f g h) c (p 2) ∧ At (nmS a b c d e f g h) d (p 3) ∧ At (nmS a b c d e f g h) e (p 4) ∧ At (nmS a b c d e f g h) f (p 5) ∧ At (nmS a b c d e f g h) g (p 6) ∧ At (nmS a b c d e f g h) h (p 7) := by
  have hz := nm_size (name_size ha) (name_size hb) (name_size hc) (name_size hd) (name_size he) (name_size hf) (name_size hg) (name_size hh)
  obtain ⟨q, p, v, es, hat⟩ := nm_scan ha hb hc hd he hf hg hh
  refine ⟨q, p, ?_, hat⟩
  generalize nmS a b c d e f g h = s at *
  have hA : allS s = (nmT q a b c d e f g h p, 0, 0) := by rw [all_ok (by omega) v (by rw [es]), es]
  unfold parseS
  rw [if_pos (by rw [hA]), hA]
end
/-- A text is read as a type's name. -/
def sBr : ByteArray := sOne 32 ++ (sOne 123 ++ sOne 125)
def nm1 (s : ByteArray) : ByteArray := lT ++ s ++ sBr
theorem first_ok {l : List Tk} {n : Nat} (h : (outS (schemaF ((1, sType, n) :: l))).2.1 = 0) : (hdT l).1 = 1 ∧ keyB (hdT l).2.1 = false ∧ isT (sg 123) l.tail = true := by
  rw [schemaF_eq, typesT_eq, if_pos (keyT (x := sType) rfl _ _)] at h
  simp only [List.tail_cons] at h
  by_cases h1 : (hdT l).1 = 1 ∧ keyB (hdT l).2.1 = false
  · refine ⟨h1.1, h1.2, ?_⟩
    rw [show nameT l = .ok ((hdT l).2.1, l.tail) from if_pos h1, andT_ok] at h
    by_cases h2 : isT (sg 123) l.tail = true
    · exact h2
    · rw [show needT (sg 123) l.tail = badT 30 l.tail from if_neg h2] at h
      cases h
  · rw [show nameT l = badT 30 l from if_neg h1] at h
    cases h
theorem may_rest {s : ByteArray} {k : Nat} (h : plc s k < s.size) : mayB (cutB s k) 0 = mayB s (plc s k) := by
  have hz := cutB_size s k
  have hd := decode_suf hz (cutB_bt s k) (i := 0) (by omega)
  unfold mayB brk rn wd
  rw [hd, Nat.add_zero]
theorem name_says {s : ByteArray} (hz : s.size ≤ 96) (hc : ∀ i, i < s.size → ¬ (bt s i = 47 ∨ bt s i = 32 ∨ bt s i = 9 ∨ bt s i = 10 ∨ bt s i = 123 ∨ bt s i = 125)) (h : (parseS (nm1 s)).2.1 = 0) : nameS s = true ∧ keyB s = false := by
  have hzz : (nm1 s).size ≤ 2048 := by
    have z0 : lT.size = 5 := rfl
    have z1 : sBr.size = 3 := rfl
    unfold nm1
    simp only [size_app]
    omega
  have h0 : (allS (nm1 s)).2.1 = 0 := by
    by_cases h0 : (allS (nm1 s)).2.1 = 0
    · exact h0
    · unfold parseS at h
      rw [if_neg h0] at h
      exact absurd h h0
  obtain ⟨v, z, e⟩ := all_zero hzz h0
  have wT := Lx.word (x := sType) (c := 32) (by decide +kernel) (.inl rfl) (Lx.blank (c := 32) rfl)
  have hsc : scan (nm1 s) 0 = ((1, sType, 0) :: (scan (s ++ sBr) 5).1, (scan (s ++ sBr) 5).2) := by
    unfold nm1 lT
    rw [app_assoc (sType ++ sOne 32), wT.2]
    rfl
  have hvs : validS s = true := by
    unfold nm1 lT at v
    rw [app_assoc (sType ++ sOne 32), sep_validS (sep_valid wT.1), wT.1, Bool.true_and] at v
    have hn : 0 < sBr.size → bt sBr 0 < 128 ∨ 192 ≤ bt sBr 0 := fun _ => .inl (by decide)
    rw [sep_validS (sep_nc hn)] at v
    exact (Bool.and_eq_true_iff.1 v).1
  rw [hsc] at z
  have hp : (outS (schemaF ((1, sType, 0) :: (scan (s ++ sBr) 5).1))).2.1 = 0 := by
    unfold parseS at h
    rw [if_pos h0, e, hsc] at h
    exact h
  obtain ⟨f1, f2, f3⟩ := first_ok hp
  have hS := sep_valid (b := sBr) hvs
  have hbr : 0 < sBr.size → mayB sBr 0 = false := low_no (.inl rfl) _
  by_cases hs0 : s.size = 0
  · have : s = ⟨#[]⟩ := bt_ext hs0 fun k hk => by omega
    rw [this] at h
    exact absurd h (by decide +kernel)
  have hpos : 0 < s.size := by omega
  have hup : 0 < (s ++ sBr).size := by rw [size_app]; omega
  have hb0 : bt (s ++ sBr) 0 = bt s 0 := bt_app_left _ _ _ hpos
  have hk3 : kd (s ++ sBr) < 3 := by
    rcases Nat.lt_or_ge (kd (s ++ sBr)) 3 with h3 | h3
    · exact h3
    · rw [scan_err hup h3] at z
      exact absurd z (by show ¬ kd (s ++ sBr) = 0; omega)
  rw [scan_go hup hk3] at z f1 f2 f3
  have hk0 : ¬ kd (s ++ sBr) = 0 := by
    unfold kd
    have hx := hc 0 hpos
    rw [hb0, if_neg (by rw [blankB_iff]; omega)]
    repeat' split
    all_goals omega
  rw [if_neg hk0] at f1 f2 f3
  have hk1 : kd (s ++ sBr) = 1 := f1
  have hln : ln (s ++ sBr) = wrN s ∧ wrN s ≤ 24 := by
    have hx := hc 0 hpos
    have hw := wrN_sep hS hbr
    unfold kd at hk1
    unfold ln
    rw [hb0, if_neg (by rw [blankB_iff]; omega)] at hk1 ⊢
    rw [hw] at hk1 ⊢
    by_cases hg : signB (bt s 0) = true
    · rw [if_pos hg] at hk1; omega
    · rw [if_neg hg, if_neg (by omega)] at hk1 ⊢
      refine ⟨rfl, ?_⟩
      by_cases h24 : wrN s ≤ 24
      · exact h24
      · rw [if_neg h24] at hk1
        split at hk1 <;> omega
  obtain ⟨hl1, hl2⟩ := hln
  rw [hl1] at z f2 f3
  have hle : wrN s ≤ cnt s := runN_le _ s
  obtain ⟨r1, r2⟩ := runN_spec (mayB s) s
  obtain ⟨c1, c2⟩ := cutB_app hS hle
  by_cases hall : wrN s = cnt s
  · have hs : cutA (s ++ sBr) (wrN s) = s := by rw [hall]; exact sep_cutA hS
    refine ⟨nameS_iff.2 ⟨cnt_pos hpos, by omega, fun k hk => (r1 k (by show k < wrN s; omega)).2⟩, ?_⟩
    have f2' : keyB (cutA (s ++ sBr) (wrN s)) = false := f2
    rw [hs] at f2'
    exact f2'
  · exfalso
    have hlt : plc s (wrN s) < s.size := lt_cnt.1 (by omega)
    have hno : mayB s (plc s (wrN s)) = false := r2 hlt
    have hw0 := may_rest hlt
    have hwz := cutB_size s (wrN s)
    have hwv := valid_cut hvs (wrN s)
    have hbw := cutB_bt s (wrN s) 0 (by omega)
    have hx := hc (plc s (wrN s)) hlt
    rw [c1] at z f3
    rw [hno] at hw0
    rw [Nat.add_zero] at hbw
    generalize cutB s (wrN s) = w at *
    generalize 5 + plc (s ++ sBr) (wrN s) = off at *
    have z2 : (scan (w ++ sBr) off).2.1 = 0 := z
    have f4 : isT (sg 123) (scan (w ++ sBr) off).1 = true := f3
    have hwp : 0 < w.size := by omega
    have hup2 : 0 < (w ++ sBr).size := by rw [size_app]; omega
    have hm : mayB (w ++ sBr) 0 = false := by
      have := sep_may (sep_valid (b := sBr) hwv) (j := 0) (cnt_pos hwp)
      exact this.trans hw0
    have hbu : bt (w ++ sBr) 0 = bt s (plc s (wrN s)) := (bt_app_left _ _ _ hwp).trans hbw
    have hk4 : kd (w ++ sBr) < 3 := by
      rcases Nat.lt_or_ge (kd (w ++ sBr)) 3 with h3 | h3
      · exact h3
      · rw [scan_err hup2 h3] at z2
        exact absurd z2 (by show ¬ kd (w ++ sBr) = 0; omega)
    rw [scan_go hup2 hk4] at f4
    have hk2 : kd (w ++ sBr) = 2 := by
      unfold kd at hk4 ⊢
      rw [hbu, if_neg (by rw [blankB_iff]; omega)] at hk4 ⊢
      by_cases hg : signB (bt s (plc s (wrN s))) = true
      · rw [if_pos hg]
      · rw [if_neg hg, if_neg (by omega), hm] at hk4
        rw [if_neg (by decide)] at hk4
        omega
    rw [if_neg (by omega)] at f4
    have f5 : cutA (w ++ sBr) (ln (w ++ sBr)) = sg 123 := (of_decide_eq_true f4).1
    have f6 := cutA_bt (w ++ sBr) (ln (w ++ sBr)) 0 (by rw [f5]; decide)
    rw [f5, hbu] at f6
    have f7 : bt (sg 123) 0 = 123 := by decide
    omega
end Go.Proofs.Ytdndncodpepdfaa

namespace Go.Proofs.Ytdndncodpepdfaa

theorem At.cut {s x : ByteArray} {n : Nat} (h : At s x n) : s.extract n (n + x.size) = x := by
  obtain ⟨_, h2, h3⟩ := h.spec
  refine bt_ext (by rw [size_ext]; omega) fun k hk => ?_
  rw [size_ext] at hk
  rw [bt_ext_get _ _ _ _ (by omega)]
  exact h3 k (by omega)
theorem sType_name : nameS sType = true := by decide +kernel
theorem nm_bad {a b c d e f g h : ByteArray} (ha : nameS a = true ∧ keyB a = false) (hb : nameS b = true ∧ keyB b = false) (hc : nameS c = true ∧ keyB c = false) (hd : nameS d = true ∧ keyB d = false) (he : nameS e = true ∧ keyB e = false) (hf : nameS f = true ∧ keyB f = false) (hg : nameS g = true ∧ keyB g = false) (hh : nameS h = true ∧ keyB h = false) {k : Nat} (hk : k < 8) {a' b' c' d' e' f' g' h' : ByteArray}
    (ea : a' = if k = 0 then sType else a) (eb : b' = if k = 1 then sType else b) (ec : c' = if k = 2 then sType else c) (ed : d' = if k = 3 then sType else d) (ee : e' = if k = 4 then sType else e) (ef : f' = if k = 5 then sType else f) (eg : g' = if k = 6 then sType else g) (eh : h' = if k = 7 then sType else h) :
    ∃ p, parseS (nmS a' b' c' d' e' f' g' h') = ([], 30, p) ∧ At (nmS a' b' c' d' e' f' g' h') sType p := by
  rcases (show k = 0 ∨ k = 1 ∨ k = 2 ∨ k = 3 ∨ k = 4 ∨ k = 5 ∨ k = 6 ∨ k = 7 by omega) with rfl | rfl | rfl | rfl | rfl | rfl | rfl | rfl
  · obtain ⟨q, p, hp, at0, at1, at2, at3, at4, at5, at6, at7⟩ := nm_parse (a := sType) (b := b) (c := c) (d := d) (e := e) (f := f) (g := g) (h := h) sType_name hb.1 hc.1 hd.1 he.1 hf.1 hg.1 hh.1
    subst ea eb ec ed ee ef eg eh
    exact ⟨p 0, hp.trans nm_bad0, at0⟩
  · obtain ⟨q, p, hp, at0, at1, at2, at3, at4, at5, at6, at7⟩ := nm_parse (a := a) (b := sType) (c := c) (d := d) (e := e) (f := f) (g := g) (h := h) ha.1 sType_name hc.1 hd.1 he.1 hf.1 hg.1 hh.1
    subst ea eb ec ed ee ef eg eh
    exact ⟨p 1, hp.trans (nm_bad1 ha.2), at1⟩
  · obtain ⟨q, p, hp, at0, at1, at2, at3, at4, at5, at6, at7⟩ := nm_parse (a := a) (b := b) (c := sType) (d := d) (e := e) (f := f) (g := g) (h := h) ha.1 hb.1 sType_name hd.1 he.1 hf.1 hg.1 hh.1
    subst ea eb ec ed ee ef eg eh
    exact ⟨p 2, hp.trans (nm_bad2 ha.2 hb.2), at2⟩
  · obtain ⟨q, p, hp, at0, at1, at2, at3, at4, at5, at6, at7⟩ := nm_parse (a := a) (b := b) (c := c) (d := sType) (e := e) (f := f) (g := g) (h := h) ha.1 hb.1 hc.1 sType_name he.1 hf.1 hg.1 hh.1
    subst ea eb ec ed ee ef eg eh
    exact ⟨p 3, hp.trans (nm_bad3 ha.2 hb.2 hc.2), at3⟩
  · obtain ⟨q, p, hp, at0, at1, at2, at3, at4, at5, at6, at7⟩ := nm_parse (a := a) (b := b) (c := c) (d := d) (e := sType) (f := f) (g := g) (h := h) ha.1 hb.1 hc.1 hd.1 sType_name hf.1 hg.1 hh.1
    subst ea eb ec ed ee ef eg eh
    exact ⟨p 4, hp.trans (nm_bad4 ha.2 hb.2 hc.2 hd.2), at4⟩
  · obtain ⟨q, p, hp, at0, at1, at2, at3, at4, at5, at6, at7⟩ := nm_parse (a := a) (b := b) (c := c) (d := d) (e := e) (f := sType) (g := g) (h := h) ha.1 hb.1 hc.1 hd.1 he.1 sType_name hg.1 hh.1
    subst ea eb ec ed ee ef eg eh
    exact ⟨p 5, hp.trans (nm_bad5 ha.2 hb.2 hc.2 hd.2 he.2), at5⟩
  · obtain ⟨q, p, hp, at0, at1, at2, at3, at4, at5, at6, at7⟩ := nm_parse (a := a) (b := b) (c := c) (d := d) (e := e) (f := f) (g := sType) (h := h) ha.1 hb.1 hc.1 hd.1 he.1 hf.1 sType_name hh.1
    subst ea eb ec ed ee ef eg eh
    exact ⟨p 6, hp.trans (nm_bad6 ha.2 hb.2 hc.2 hd.2 he.2 hf.2), at6⟩
  · obtain ⟨q, p, hp, at0, at1, at2, at3, at4, at5, at6, at7⟩ := nm_parse (a := a) (b := b) (c := c) (d := d) (e := e) (f := f) (g := g) (h := sType) ha.1 hb.1 hc.1 hd.1 he.1 hf.1 hg.1 sType_name
    subst ea eb ec ed ee ef eg eh
    exact ⟨p 7, hp.trans (nm_bad7 ha.2 hb.2 hc.2 hd.2 he.2 hf.2 hg.2), at7⟩
theorem nm_good {a b c d e f g h : ByteArray} (ha : nameS a = true ∧ keyB a = false) (hb : nameS b = true ∧ keyB b = false) (hc : nameS c = true ∧ keyB c = false) (hd : nameS d = true ∧ keyB d = false) (he : nameS e = true ∧ keyB e = false) (hf : nameS f = true ∧ keyB f = false) (hg : nameS g = true ∧ keyB g = false) (hh : nameS h = true ∧ keyB h = false) :
    parseS (nmS a b c d e f g h) = ([⟨a, [⟨b, c, d, e, [(f, g)], [(2, h, ⟨#[]⟩)]⟩]⟩], 0, 0) := by
  obtain ⟨q, p, hp, _⟩ := nm_parse ha.1 hb.1 hc.1 hd.1 he.1 hf.1 hg.1 hh.1
  exact hp.trans (nm_says ha.2 hb.2 hc.2 hd.2 he.2 hf.2 hg.2 hh.2)
end Go.Proofs.Ytdndncodpepdfaa

