/- Layer 8: tokens, whatever their places, that a schema is shown as: what they say. Conditions: none; nothing of the program is named here. -/
import Derived.Test.YtkeonempmchpnaaGoodF
namespace Go.Proofs.Ytkeonempmchpnaa

abbrev KT := Nat × ByteArray
def Km (ts : List Tk) (ks : List KT) : Prop := ts.map ktT = ks
theorem km_cons {ts : List Tk} {k : Nat} {x : ByteArray} {ks : List KT} (h : Km ts ((k, x) :: ks)) : ∃ p ts', ts = (k, x, p) :: ts' ∧ Km ts' ks := by
  cases ts with
  | nil => cases h
  | cons t r =>
    obtain ⟨a, b, p⟩ := t
    unfold Km at h
    rw [List.map_cons] at h
    injection h with h1 h2
    injection h1 with h3 h4
    exact ⟨p, r, by rw [← h3, ← h4], h2⟩
theorem km_nil {ts : List Tk} (h : Km ts []) : ts = [] := List.map_eq_nil_iff.1 h
theorem km_app {ts : List Tk} {a b : List KT} (h : Km ts (a ++ b)) : ∃ t1 t2, ts = t1 ++ t2 ∧ Km t1 a ∧ Km t2 b := by
  obtain ⟨t1, t2, e, h1, h2⟩ := List.map_eq_append_iff.1 h
  exact ⟨t1, t2, e, h1, h2⟩
theorem isT_hd (s : ByteArray) (k : Nat) (x : ByteArray) (p : Nat) (l : List Tk) : isT s ((k, x, p) :: l) = decide (x = s ∧ (k = 2 ∨ keyB s = true)) := rfl
theorem isT_same {s : ByteArray} {k p : Nat} {l : List Tk} (h : k = 2 ∨ keyB s = true) : isT s ((k, s, p) :: l) = true := by
  rw [isT_hd, decide_eq_true_eq]
  exact ⟨rfl, h⟩
theorem word_no {s n : ByteArray} {p : Nat} {l : List Tk} (hn : keyB n = false) : isT s ((1, n, p) :: l) = false := by
  rw [isT_hd, decide_eq_false_iff_not]
  rintro ⟨rfl, h | h⟩
  · exact absurd h (by decide)
  · rw [hn] at h; cases h
theorem key_no {s n : ByteArray} {k p : Nat} {l : List Tk} (hn : n ≠ s) : isT s ((k, n, p) :: l) = false := by
  rw [isT_hd, decide_eq_false_iff_not]
  exact fun h => hn h.1
theorem nameW {n : ByteArray} {p : Nat} {l : List Tk} (hn : keyB n = false) : nameT ((1, n, p) :: l) = .ok (n, l) := if_pos ⟨rfl, hn⟩
theorem needW {s : ByteArray} {k p : Nat} {l : List Tk} (h : k = 2 ∨ keyB s = true) : needT s ((k, s, p) :: l) = .ok ((), l) := if_pos (isT_same h)
def sgc (k : Nat) : ByteArray := if k = 4 then sg 124 else if k = 5 then sg 38 else sg 45
def tkX : Ex → List KT
  | .this => [(1, sThis)]
  | .same n => [(1, n)]
  | .via n m => [(1, n), (2, sg 46), (1, m)]
  | .bin k a b => tkX a ++ (2, sgc k) :: (if b.sg = true then (2, sg 40) :: (tkX b ++ [(2, sg 41)]) else tkX b)
def ptkX (t : Ex) : List KT := if t.sg = true then (2, sg 40) :: (tkX t ++ [(2, sg 41)]) else tkX t
theorem op_hd {k : Nat} (hk : k = 4 ∨ k = 5 ∨ k = 6) (p : Nat) (l : List Tk) : opT ((2, sgc k, p) :: l) = k := by
  unfold opT
  rw [isT_hd, isT_hd, isT_hd]
  rcases hk with rfl | rfl | rfl <;> decide +kernel
theorem back_tree : ∀ t : Ex, t.good → t.nm →
    (∀ d l ts, d + t.deep ≤ 8 → Km ts (tkX t) → isT (sg 46) l = false → rewT d (ts ++ l) = moreT d t.ops l) ∧
    (∀ d l ts, d + t.pd ≤ 8 → Km ts (ptkX t) → isT (sg 46) l = false → partT d (ts ++ l) = .ok (t.ops, l))
  | .this, _, _ => by
    have hp : ∀ d l ts, Km ts [(1, sThis)] → partT d (ts ++ l) = .ok ([(1, ⟨#[]⟩, ⟨#[]⟩)], l) := by
      intro d l ts h
      obtain ⟨p, r, e_, hh_⟩ := km_cons h
      subst e_
      replace h := hh_
      clear hh_
      rw [km_nil h, partT_eq]
      show (if isT sThis ((1, sThis, p) :: l) = true then _ else _) = _
      rw [if_pos (isT_same (.inr (by decide +kernel)))]
      rfl
    refine ⟨fun d l ts _ h _ => ?_, fun d l ts _ h _ => hp d l ts h⟩
    unfold rewT
    rw [hp d l ts h]
    rfl
  | .same n, _, hn => by
    have hn2 : NmW n := hn
    have hp : ∀ d l ts, Km ts [(1, n)] → isT (sg 46) l = false → partT d (ts ++ l) = .ok ([(2, n, ⟨#[]⟩)], l) := by
      intro d l ts h hl
      obtain ⟨p, r, e_, hh_⟩ := km_cons h
      subst e_
      replace h := hh_
      clear hh_
      rw [km_nil h, partT_eq]
      show (if isT sThis ((1, n, p) :: l) = true then _ else if isT (sg 40) ((1, n, p) :: l) = true then _ else andT (nameT ((1, n, p) :: l)) _) = _
      rw [if_neg (by rw [word_no hn2.2]; decide), if_neg (by rw [word_no hn2.2]; decide), nameW hn2.2, andT_ok, if_neg (by rw [hl]; decide)]
    refine ⟨fun d l ts _ h hl => ?_, fun d l ts _ h hl => hp d l ts h hl⟩
    unfold rewT
    rw [hp d l ts h hl]
    rfl
  | .via n m, _, hn => by
    obtain ⟨hn1, hn2⟩ := hn
    have hp : ∀ d l ts, Km ts [(1, n), (2, sg 46), (1, m)] → partT d (ts ++ l) = .ok ([(3, n, m)], l) := by
      intro d l ts h
      obtain ⟨p, r, e_, hh_⟩ := km_cons h
      subst e_
      replace h := hh_
      clear hh_
      obtain ⟨p2, r, e_, hh_⟩ := km_cons h
      subst e_
      replace h := hh_
      clear hh_
      obtain ⟨p3, r, e_, hh_⟩ := km_cons h
      subst e_
      replace h := hh_
      clear hh_
      rw [km_nil h, partT_eq]
      show (if isT sThis ((1, n, p) :: (2, sg 46, p2) :: (1, m, p3) :: l) = true then _ else if isT (sg 40) ((1, n, p) :: (2, sg 46, p2) :: (1, m, p3) :: l) = true then _ else andT (nameT ((1, n, p) :: (2, sg 46, p2) :: (1, m, p3) :: l)) _) = _
      rw [if_neg (by rw [word_no hn1.2]; decide), if_neg (by rw [word_no hn1.2]; decide), nameW hn1.2, andT_ok, if_pos (isT_same (.inl rfl))]
      show andT (nameT ((1, m, p3) :: l)) _ = _
      rw [nameW hn2.2]
      rfl
    refine ⟨fun d l ts _ h _ => ?_, fun d l ts _ h _ => hp d l ts h⟩
    unfold rewT
    rw [hp d l ts h]
    rfl
  | .bin k a b, hg, hn => by
    obtain ⟨hk, hga, hgb⟩ := hg
    obtain ⟨qa, _⟩ := back_tree a hga hn.1
    obtain ⟨_, pb⟩ := back_tree b hgb hn.2
    have hq : ∀ d l ts, d + max a.deep b.pd ≤ 8 → Km ts (tkX a ++ (2, sgc k) :: ptkX b) → isT (sg 46) l = false → rewT d (ts ++ l) = moreT d (Ex.bin k a b).ops l := by
      intro d l ts hd h hl
      obtain ⟨t1, t2, rfl, h1, h2⟩ := km_app h
      obtain ⟨p, t3, rfl, h3⟩ := km_cons h2
      have hs : isT (sg 46) ((2, sgc k, p) :: (t3 ++ l)) = false := key_no (by rcases hk with rfl | rfl | rfl <;> decide +kernel)
      rw [List.append_assoc, List.cons_append, qa d _ t1 (by omega) h1 hs, moreT_eq, op_hd hk, if_neg (by omega)]
      show andT (partT d (t3 ++ l)) _ = _
      rw [pb d l t3 (by omega) h3 hl, andT_ok]
      rfl
    refine ⟨fun d l ts hd h hl => hq d l ts hd h hl, fun d l ts hd h hl => ?_⟩
    have hd2 : d + (max a.deep b.pd + 1) ≤ 8 := hd
    obtain ⟨p, t2, rfl, h2⟩ := km_cons (show Km ts ((2, sg 40) :: (tkX (Ex.bin k a b) ++ [(2, sg 41)])) from h)
    obtain ⟨t3, t4, rfl, h3, h4⟩ := km_app h2
    obtain ⟨p4, t5, rfl, h5⟩ := km_cons h4
    rw [km_nil h5, partT_eq]
    show (if isT sThis ((2, sg 40, p) :: (t3 ++ [(2, sg 41, p4)] ++ l)) = true then _ else if isT (sg 40) ((2, sg 40, p) :: (t3 ++ [(2, sg 41, p4)] ++ l)) = true then (if d = 8 then _ else andT (rewT (d + 1) (t3 ++ [(2, sg 41, p4)] ++ l)) _) else _) = _
    rw [if_neg (by rw [key_no (by decide +kernel)]; decide), if_pos (isT_same (.inl rfl)), if_neg (by omega), List.append_assoc, List.singleton_append]
    rw [hq (d + 1) _ t3 (by omega) h3 (key_no (by decide +kernel)), moreT_eq, show opT ((2, sg 41, p4) :: l) = 0 by unfold opT; rw [isT_hd, isT_hd, isT_hd]; decide +kernel, if_pos rfl, andT_ok, needW (.inl rfl)]
    rfl
def subK (s : SubP) : List KT := if s.2 = ⟨#[]⟩ then [(1, s.1)] else [(1, s.1), (2, sg 35), (1, s.2)]
def tailK : List SubP → List KT
  | [] => []
  | s :: r => (2, sg 44) :: (subK s ++ tailK r)
def whoK : List SubP → List KT
  | [] => []
  | s :: r => subK s ++ tailK r
theorem back_who : ∀ (r : List SubP) (s : SubP) (acc : List SubP) (l ts : List Tk), SubG s → (∀ x ∈ r, SubG x) → Km ts (subK s ++ tailK r) → isT (sg 35) l = false → isT (sg 44) l = false → whoT acc (ts ++ l) = .ok (acc ++ s :: r, l) := by
  intro r
  induction r with
  | nil =>
    intro s acc l ts hs _ h h35 h44
    rw [whoT_eq]
    unfold subK at h
    split at h
    · rename_i he
      obtain ⟨p, t2, e_, hh_⟩ := km_cons h
      subst e_
      replace h := hh_
      clear hh_
      rw [km_nil h, List.singleton_append, nameW hs.1.2, andT_ok, if_neg (by rw [h35]; decide), andT_ok, if_neg (by rw [h44]; decide), ← he]
    · rename_i he
      have h2 : NmW s.2 := hs.2.resolve_left he
      obtain ⟨p, t2, e_, hh_⟩ := km_cons h
      subst e_
      replace h := hh_
      clear hh_
      obtain ⟨p2, t2, e_, hh_⟩ := km_cons h
      subst e_
      replace h := hh_
      clear hh_
      obtain ⟨p3, t2, e_, hh_⟩ := km_cons h
      subst e_
      replace h := hh_
      clear hh_
      rw [km_nil h]
      show andT (nameT ((1, s.1, p) :: (2, sg 35, p2) :: (1, s.2, p3) :: l)) _ = _
      rw [nameW hs.1.2, andT_ok, if_pos (isT_same (.inl rfl))]
      show andT (nameT ((1, s.2, p3) :: l)) _ = _
      rw [nameW h2.2, andT_ok, if_neg (by rw [h44]; decide)]
  | cons s2 r ih =>
    intro s acc l ts hs hr h h35 h44
    obtain ⟨t1, t2, rfl, h1, h2⟩ := km_app h
    obtain ⟨p, t3, rfl, h3⟩ := km_cons h2
    have key := ih s2 (acc ++ [s]) l t3 (hr _ List.mem_cons_self) (fun x hx => hr x (List.mem_cons_of_mem _ hx)) h3 h35 h44
    rw [List.append_assoc, List.singleton_append] at key
    rw [whoT_eq]
    unfold subK at h1
    split at h1
    · rename_i he
      obtain ⟨p1, t4, e_, hh_⟩ := km_cons h1
      subst e_
      replace h1 := hh_
      clear hh_
      rw [km_nil h1]
      show andT (nameT ((1, s.1, p1) :: (2, sg 44, p) :: (t3 ++ l))) _ = _
      rw [nameW hs.1.2, andT_ok, if_neg (by rw [key_no (by decide +kernel)]; decide), andT_ok, if_pos (isT_same (.inl rfl)), ← he]
      exact key
    · rename_i he
      have hm : NmW s.2 := hs.2.resolve_left he
      obtain ⟨p1, t4, e_, hh_⟩ := km_cons h1
      subst e_
      replace h1 := hh_
      clear hh_
      obtain ⟨p2, t4, e_, hh_⟩ := km_cons h1
      subst e_
      replace h1 := hh_
      clear hh_
      obtain ⟨p3, t4, e_, hh_⟩ := km_cons h1
      subst e_
      replace h1 := hh_
      clear hh_
      rw [km_nil h1]
      show andT (nameT ((1, s.1, p1) :: (2, sg 35, p2) :: (1, s.2, p3) :: (2, sg 44, p) :: (t3 ++ l))) _ = _
      rw [nameW hs.1.2, andT_ok, if_pos (isT_same (.inl rfl))]
      show andT (nameT ((1, s.2, p3) :: (2, sg 44, p) :: (t3 ++ l))) _ = _
      rw [nameW hm.2, andT_ok, if_pos (isT_same (.inl rfl))]
      exact key
end Go.Proofs.Ytkeonempmchpnaa
