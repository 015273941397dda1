/- Layer 4: what appending makes of a disk, plainly: all of it, or a torn record; what is read behind it. Conditions: none. -/
import Derived.Test.YtgppaompcnllbaaAppend
namespace Go.Proofs.Ytgppaompcnllbaa
open Go.RowKit

/-- The writes of a record's first m parts. -/
def pw (t : LSt) (l : List UInt8) (m : Nat) : List (Nat × Sec) := (List.range m).map fun j => (t.next + 1 + j, partS l j)
theorem pw_succ (t : LSt) (l : List UInt8) (m : Nat) : pw t l (m + 1) = pw t l m ++ [(t.next + 1 + m, partS l m)] := by simp [pw, List.range_succ]
theorem pw_len (t : LSt) (l : List UInt8) (m : Nat) : (pw t l m).length = m := by simp [pw]
def pwB (t : LSt) (l : List UInt8) (m : Nat) : List (Nat × List UInt8) := (List.range m).map fun j => (t.next + 1 + j, partB l j)
theorem pwB_succ (t : LSt) (l : List UInt8) (m : Nat) : pwB t l (m + 1) = pwB t l m ++ [(t.next + 1 + m, partB l m)] := by simp [pwB, List.range_succ]
theorem wps_take (t : LSt) (l : List UInt8) : ∀ k, k ≤ pn l.length → wps t l ((ptAll l.length).take k) = pwB t l k
  | 0, _ => by simp [wps, pwB]
  | k + 1, hk => by
    rw [ptAll_step _ (by omega), wps_snoc, wps_take t l k (by omega), pwB_succ, List.length_take, ptAll_len, Nat.min_eq_left (by omega)]
theorem wps_all (t : LSt) (l : List UInt8) : wps t l (ptAll l.length) = pwB t l (pn l.length) := by
  have := wps_take t l (pn l.length) (Nat.le_refl _)
  rwa [List.take_of_length_le (by rw [ptAll_len]; exact Nat.le_refl _)] at this
theorem count_live {s : St} (hd : s.dead = false) : s.count.dead = false ∧ s.count.left ≤ s.left ∨ s.count.dead = true ∧ 0 < s.left := by
  unfold St.count
  split
  · rename_i h
    cases h2 : decide (s.left - 1 = 0) with
    | false => exact .inl ⟨rfl, by simp only; omega⟩
    | true => exact .inr ⟨rfl, h⟩
  · exact .inl ⟨hd, Int.le_refl _⟩
/-- One write that may be. -/
theorem write_spec {s : St} (hd : s.dead = false) {i : Nat} {l : List UInt8} (hi : i < s.kept.length) (hl : l.length ≤ 64) :
    (wrE s i l = 0 ∧ (wrS s i l).kept = s.kept ∧ (wrS s i l).waits = s.waits ++ [(i, pad l)] ∧ (wrS s i l).dead = false ∧ (wrS s i l).left ≤ s.left) ∨
    (wrE s i l = 20 ∧ (wrS s i l).kept = s.kept ∧ (wrS s i l).waits = s.waits ∧ (wrS s i l).dead = true ∧ 0 < s.left) := by
  have ho : okW s i l = true := okW_iff.2 ⟨⟨by omega, by omega⟩, hl⟩
  have e1 : wrS s i l = s.write i l := by rw [wrS, if_pos ho]
  have e2 : wrE s i l = s.err := by rw [wrE, if_pos ho]
  rw [e1, e2]
  rcases count_live hd with ⟨h, hle⟩ | ⟨h, hp⟩
  · have h' : ¬ s.count.dead = true := by rw [h]; simp
    rw [St.err, if_neg h', St.write, if_neg h']
    exact .inl ⟨rfl, St.count_kept s, by show s.count.waits ++ [((i : Int).toNat, pad l)] = _; rw [St.count_waits, Int.toNat_natCast], h, hle⟩
  · rw [St.err, if_pos h, St.write, if_pos h]
    exact .inr ⟨rfl, St.count_kept s, St.count_waits s, h, hp⟩
theorem flush_spec {s : St} (hd : s.dead = false) :
    (s.err = 0 ∧ s.flush.kept = puts s.kept s.waits ∧ s.flush.waits = [] ∧ s.flush.dead = false ∧ s.flush.left ≤ s.left) ∨
    (s.err = 20 ∧ s.flush.kept = s.kept ∧ s.flush.waits = s.waits ∧ s.flush.dead = true ∧ 0 < s.left) := by
  rcases count_live hd with ⟨h, hle⟩ | ⟨h, hp⟩
  · have h' : ¬ s.count.dead = true := by rw [h]; simp
    rw [St.err, if_neg h', St.flush, if_neg h']
    exact .inl ⟨rfl, by show puts s.count.kept s.count.waits = _; rw [St.count_kept, St.count_waits], rfl, h, hle⟩
  · rw [St.err, if_pos h, St.flush, if_pos h]
    exact .inr ⟨rfl, St.count_kept s, St.count_waits s, h, hp⟩
theorem parts_spec {s : St} (hd : s.dead = false) (hw : s.waits = []) (t : LSt) (l : List UInt8) : ∀ m, t.next + 1 + m ≤ s.kept.length →
    ((wrF s (pwB t l m)).2 = 0 ∧ (wrF s (pwB t l m)).1.kept = s.kept ∧ (wrF s (pwB t l m)).1.waits = pw t l m ∧ (wrF s (pwB t l m)).1.dead = false ∧ (wrF s (pwB t l m)).1.left ≤ s.left) ∨
    ((wrF s (pwB t l m)).2 = 20 ∧ (wrF s (pwB t l m)).1.kept = s.kept ∧ (∃ k, k ≤ m ∧ (wrF s (pwB t l m)).1.waits = pw t l k) ∧ (wrF s (pwB t l m)).1.dead = true ∧ 0 < s.left)
  | 0, _ => .inl ⟨rfl, rfl, hw, hd, Int.le_refl _⟩
  | m + 1, hm => by
    rw [pwB_succ]
    rcases parts_spec hd hw t l m (by omega) with ⟨h1, h2, h3, h4, h5⟩ | ⟨h1, h2, ⟨k, hk, h3⟩, h4, h5⟩
    · rw [wrF_snoc h1]
      rcases write_spec h4 (i := t.next + 1 + m) (l := partB l m) (by rw [h2]; omega) (partB_le l m) with ⟨g1, g2, g3, g4, g5⟩ | ⟨g1, g2, g3, g4, g5⟩
      · exact .inl ⟨g1, g2.trans h2, by rw [pw_succ, ← h3]; exact g3, g4, Int.le_trans g5 h5⟩
      · exact .inr ⟨g1, g2.trans h2, ⟨m, by omega, g3.trans h3⟩, g4, Int.lt_of_lt_of_le g5 h5⟩
    · rw [wrF_bad (by rw [h1]; simp)]
      exact .inr ⟨h1, h2, ⟨k, by omega, h3⟩, h4, h5⟩
/-- The sectors behind a record that is all there. -/
def laidK (K : List Sec) (t : LSt) (l : List UInt8) : List Sec := (puts K (pw t l (pn l.length))).set t.next (headS t.epoch t.recs.length l.length)
/-- What a stop may leave: the sectors that are kept, and the writes that wait. -/
def Torn (K : List Sec) (t : LSt) (l : List UInt8) (Kx : List Sec) (Wx : List (Nat × Sec)) : Prop :=
  (Kx = K ∧ ∃ m, m ≤ pn l.length ∧ Wx = pw t l m) ∨ (Kx = puts K (pw t l (pn l.length)) ∧ (Wx = [] ∨ Wx = [(t.next, headS t.epoch t.recs.length l.length)]))
theorem ap_spec {s : St} {t : LSt} {l : List UInt8} (ht : t.Ok) (hl : l.length ≤ 4096) (hd : s.dead = false) (hw : s.waits = []) (hto : t.next + szN l.length ≤ s.kept.length) :
    (apE s t l = 0 ∧ (apS s t l).kept = laidK s.kept t l ∧ (apS s t l).waits = [] ∧ (apS s t l).dead = false ∧ (apS s t l).left ≤ s.left) ∨
    (apE s t l = 20 ∧ (apS s t l).dead = true ∧ 0 < s.left ∧ Torn s.kept t l (apS s t l).kept (apS s t l).waits) := by
  have hp : ptW s t l = wrF s (pwB t l (pn l.length)) := by rw [ptW, wps_all]
  have h64 : (headB t.epoch t.recs.length l.length).length ≤ 64 := headB_le ht.epoch (by have := ht.few; have := ht.le; have := ht.most; omega) (by omega)
  rcases parts_spec hd hw t l (pn l.length) (by unfold szN at hto; omega) with ⟨h1, h2, h3, h4, h5⟩ | ⟨h1, h2, h3, h4, h5⟩ <;> rw [← hp] at h1 h2 h3 h4
  · rw [← hp] at h5
    have hE1 : ptE s t l = (ptW s t l).1.err := by rw [ptE, if_pos h1]
    have hS1 : ptS s t l = (ptW s t l).1.flush := by rw [ptS, if_pos h1]
    rcases flush_spec h4 with ⟨g1, g2, g3, g4, g5⟩ | ⟨g1, g2, g3, g4, g5⟩ <;> rw [← hS1] at g2 g3 g4
    · rw [← hS1] at g5
      have hE2 : apE s t l = hdE (ptS s t l) t l.length := by rw [apE, if_pos (hE1.trans g1)]
      have hS2 : apS s t l = hdS (ptS s t l) t l.length := by rw [apS, if_pos (hE1.trans g1)]
      rw [h2, h3] at g2
      rcases write_spec g4 (i := t.next) (l := headB t.epoch t.recs.length l.length) (by rw [g2, puts_length]; have := szN_pos l.length; omega) h64 with ⟨k1, k2, k3, k4, k5⟩ | ⟨k1, k2, k3, k4, k5⟩
      · have hE3 : hdE (ptS s t l) t l.length = (hdW (ptS s t l) t l.length).err := by rw [hdE, if_pos (show hdX (ptS s t l) t l.length = 0 from k1)]
        have hS3 : hdS (ptS s t l) t l.length = (hdW (ptS s t l) t l.length).flush := by rw [hdS, if_pos (show hdX (ptS s t l) t l.length = 0 from k1)]
        rcases flush_spec (s := hdW (ptS s t l) t l.length) k4 with ⟨m1, m2, m3, m4, m5⟩ | ⟨m1, m2, m3, m4, m5⟩ <;> rw [← hS3, ← hS2] at m2 m3 m4
        · rw [← hS3, ← hS2] at m5
          refine .inl ⟨by rw [hE2, hE3, m1], ?_, m3, m4, Int.le_trans m5 (Int.le_trans k5 (Int.le_trans g5 h5))⟩
          have e1 : (hdW (ptS s t l) t l.length).kept = puts s.kept (pw t l (pn l.length)) := k2.trans g2
          have e2 : (hdW (ptS s t l) t l.length).waits = [(t.next, headS t.epoch t.recs.length l.length)] := k3.trans (by rw [g3]; rfl)
          rw [m2, e1, e2]
          rfl
        · refine .inr ⟨by rw [hE2, hE3, m1], m4, Int.lt_of_lt_of_le m5 (Int.le_trans k5 (Int.le_trans g5 h5)), .inr ⟨m2.trans (k2.trans g2), .inr (m3.trans (k3.trans (by rw [g3]; rfl)))⟩⟩
      · have hE3 : hdE (ptS s t l) t l.length = 20 := by
          have : hdX (ptS s t l) t l.length = 20 := k1
          rw [hdE, if_neg (by rw [this]; simp), this]
        have hS3 : hdS (ptS s t l) t l.length = hdW (ptS s t l) t l.length := by
          have : hdX (ptS s t l) t l.length = 20 := k1
          rw [hdS, if_neg (by rw [this]; simp)]
        have e0 : apS s t l = wrS (ptS s t l) t.next (headB t.epoch t.recs.length l.length) := hS2.trans hS3
        rw [e0]
        exact .inr ⟨by rw [hE2, hE3], k4, Int.lt_of_lt_of_le k5 (Int.le_trans g5 h5), .inr ⟨k2.trans g2, .inl (k3.trans g3)⟩⟩
    · have hb : ptE s t l ≠ 0 := by rw [hE1, g1]; simp
      have hS2 : apS s t l = ptS s t l := by rw [apS, if_neg hb]
      rw [← hS2] at g2 g3 g4
      exact .inr ⟨by rw [apE, if_neg hb, hE1, g1], g4, Int.lt_of_lt_of_le g5 h5, .inl ⟨g2.trans h2, pn l.length, Nat.le_refl _, g3.trans h3⟩⟩
  · have hb0 : (ptW s t l).2 ≠ 0 := by rw [h1]; simp
    have hE1 : ptE s t l = 20 := by rw [ptE, if_neg hb0, h1]
    have hS1 : ptS s t l = (ptW s t l).1 := by rw [ptS, if_neg hb0]
    have hb : ptE s t l ≠ 0 := by rw [hE1]; simp
    have hS2 : apS s t l = (ptW s t l).1 := by rw [apS, if_neg hb, hS1]
    rw [hS2]
    obtain ⟨k, hk, h3⟩ := h3
    exact .inr ⟨by rw [apE, if_neg hb, hE1], h4, h5, .inl ⟨h2, k, hk, h3⟩⟩

/-! what is read behind it -/
theorem puts_get (ps : List (Nat × Sec)) : ∀ (l : List Sec) (k : Nat), (puts l ps)[k]? = l[k]? ∨ ∃ p ∈ ps, p.1 = k ∧ (puts l ps)[k]? = some p.2 := by
  induction ps with
  | nil => intro l k; exact .inl rfl
  | cons p r ih =>
    intro l k
    show (puts (put1 l p) r)[k]? = _ ∨ _
    rcases ih (put1 l p) k with h | ⟨q, hq, h1, h2⟩
    · by_cases hk : p.1 = k
      · by_cases hlt : k < l.length
        · exact .inr ⟨p, List.mem_cons_self .., hk, by show (puts (put1 l p) r)[k]? = _; rw [h, put1, ← hk, List.getElem?_set_self (by omega)]⟩
        · left
          rw [h, put1, List.getElem?_eq_none (by simp; omega), List.getElem?_eq_none (by omega)]
      · left
        rw [h, put1, List.getElem?_set_ne hk]
    · exact .inr ⟨q, List.mem_cons_of_mem _ hq, h1, h2⟩
theorem pw_mem {t : LSt} {l : List UInt8} {m : Nat} {p : Nat × Sec} (h : p ∈ pw t l m) : ∃ j, j < m ∧ p = (t.next + 1 + j, partS l j) := by
  obtain ⟨j, hj, rfl⟩ := List.mem_map.1 h
  exact ⟨j, List.mem_range.1 hj, rfl⟩
theorem puts_pw (K : List Sec) (t : LSt) (l : List UInt8) : ∀ m, t.next + 1 + m ≤ K.length → ∀ j, j < m → (puts K (pw t l m))[t.next + 1 + j]? = some (partS l j)
  | 0, _, j, hj => absurd hj (by omega)
  | m + 1, hm, j, hj => by
    rw [pw_succ, puts_snoc]
    by_cases h : j = m
    · subst h
      rw [List.getElem?_set_self (by rw [puts_length]; omega)]
    · rw [List.getElem?_set_ne (by simp only; omega)]
      exact puts_pw K t l m (by omega) j (by omega)
/-- Those records lie from p on, up to pos, and no head of epoch e is behind, up to to. -/
structure Good (l : List Sec) (e p : Nat) (acc : List (List UInt8)) (pos to : Nat) : Prop where
  laid : Laid l e p acc pos
  clean : Clean l e pos to
  le : pos ≤ to
  sz : ∀ b ∈ acc, b.length ≤ 4096
theorem Good.reads {l : List Sec} {e p : Nat} {acc : List (List UInt8)} {pos to : Nat} (h : Good l e p acc pos to) (he : e < 2 ^ 64) (hto : to ≤ 65536) : Reads l e to p acc pos := h.laid.reads h.clean he h.le (by omega) h.sz
theorem Good.new {l : List Sec} {e p to : Nat} (h : Clean l e p to) (hp : p ≤ to) : Good l e p [] p to := ⟨.nil, h, hp, fun _ h => (by cases h)⟩
theorem getD_of {l : List Sec} {i : Nat} {x : Sec} (h : l[i]? = some x) : l.getD i [] = x := by rw [List.getD_eq_getElem?_getD, h]; rfl
theorem getD_same {l l' : List Sec} {i : Nat} (h : l'[i]? = l[i]?) : l'.getD i [] = l.getD i [] := by rw [List.getD_eq_getElem?_getD, List.getD_eq_getElem?_getD, h]
/-- Parts that are written behind the last record change nothing. -/
theorem Good.torn {K R : List Sec} {e p : Nat} {acc : List (List UInt8)} {pos to : Nat} (h : Good K e p acc pos to) {l : List UInt8} (hR : ∀ i, R[i]? = K[i]? ∨ (pos < i ∧ ∃ j, R[i]? = some (partS l j))) : Good R e p acc pos to :=
  ⟨h.laid.same fun i _ h2 => by
      rcases hR i with h3 | ⟨h3, _⟩
      · exact h3
      · omega,
    fun i h1 h2 k => by
      rcases hR i with h3 | ⟨_, j, h3⟩
      · rw [getD_same h3]; exact h.clean i h1 h2 k
      · rw [getD_of h3]; exact headIs_part l j e k, h.le, h.sz⟩
theorem laid_secs {K : List Sec} {t : LSt} {l : List UInt8} (hto : t.next + szN l.length ≤ K.length) : SecsAt (laidK K t l) t.epoch t.recs.length t.next l := by
  have hp := szN_pos l.length
  unfold szN at hto
  refine ⟨?_, fun j hj => ?_⟩
  · rw [laidK, List.getElem?_set_self (by rw [puts_length]; omega)]
  · rw [laidK, List.getElem?_set_ne (by omega)]
    exact puts_pw K t l _ (by omega) j hj
theorem laid_far {K : List Sec} {t : LSt} {l : List UInt8} {i : Nat} (hi : i < t.next ∨ t.next + szN l.length ≤ i) : (laidK K t l)[i]? = K[i]? := by
  unfold szN at hi
  rw [laidK, List.getElem?_set_ne (by omega)]
  exact puts_other _ _ _ fun p hp => by
    obtain ⟨j, hj, rfl⟩ := pw_mem hp
    simp only
    omega
theorem laidK_len (K : List Sec) (t : LSt) (l : List UInt8) : (laidK K t l).length = K.length := by rw [laidK, List.length_set, puts_length]
/-- A record more. -/
theorem Good.add {K : List Sec} {t : LSt} {p to : Nat} (h : Good K t.epoch p t.recs t.next to) {l : List UInt8} (hl : l.length ≤ 4096) (hto : t.next + szN l.length ≤ to) (hK : to ≤ K.length) : Good (laidK K t l) t.epoch p (t.recs ++ [l]) (t.next + szN l.length) to :=
  ⟨(h.laid.same fun i _ h2 => laid_far (.inl h2)).snoc (laid_secs (by omega)), fun i h1 h2 k => by rw [getD_same (laid_far (.inr h1))]; exact h.clean i (by omega) h2 k, hto, fun b hb => by
    rcases List.mem_append.1 hb with hb | hb
    · exact h.sz b hb
    · simp at hb; subst hb; exact hl⟩
/-- No head of another epoch is there behind a record more, either. -/
theorem clean_add {K : List Sec} {t : LSt} {l : List UInt8} {e p to : Nat} (h : Clean K e p to) (ht : t.Ok) (hne : t.epoch ≠ e) (hl : l.length ≤ 4096) (hto : t.next + szN l.length ≤ K.length) : Clean (laidK K t l) e p to := fun i h1 h2 k => by
  have hs := laid_secs hto
  by_cases a1 : i < t.next
  · rw [getD_same (laid_far (.inl a1))]; exact h i h1 h2 k
  · by_cases a2 : t.next + szN l.length ≤ i
    · rw [getD_same (laid_far (.inr a2))]; exact h i h1 h2 k
    · by_cases a3 : i = t.next
      · subst a3
        rw [getD_of hs.head]
        exact headIs_other ht.epoch (by have := ht.few; have := ht.le; have := ht.most; omega) (by omega) hne k
      · have := hs.part (i - t.next - 1) (by unfold szN at a2; omega)
        rw [show t.next + 1 + (i - t.next - 1) = i from by omega] at this
        rw [getD_of this]
        exact headIs_part l _ e k
theorem clean_fresh (n e p to : Nat) : Clean (St.fresh n).kept e p to := fun i _ _ k => by
  rw [List.getD_eq_getElem?_getD]
  show headIs ((List.replicate n (List.replicate 64 0))[i]?.getD []) e k = none
  rw [List.getElem?_replicate]
  split
  · exact headIs_zero e k
  · exact headIs_nil e k
theorem now_kept {s : St} (h : s.waits = []) : s.now = s.kept := by unfold St.now; rw [h]; rfl
/-- What is read behind a stop within appending, whatever stays. -/
theorem torn_reads {K Kx : List Sec} {Wx : List (Nat × Sec)} {t : LSt} {l : List UInt8} {p to : Nat} (hg : Good K t.epoch p t.recs t.next to) (hl : l.length ≤ 4096) (hto : t.next + szN l.length ≤ to) (hK : to ≤ K.length) (h : Torn K t l Kx Wx) (f : Nat → Bool) :
    Good (puts Kx (pick f Wx)) t.epoch p t.recs t.next to ∨ Good (puts Kx (pick f Wx)) t.epoch p (t.recs ++ [l]) (t.next + szN l.length) to := by
  have key : ∀ ps : List (Nat × Sec), (∀ q ∈ ps, ∃ j, q = (t.next + 1 + j, partS l j)) → Good (puts K ps) t.epoch p t.recs t.next to := fun ps hps => hg.torn (l := l) fun i => by
    rcases puts_get ps K i with h1 | ⟨q, hq, h1, h2⟩
    · exact .inl h1
    · obtain ⟨j, rfl⟩ := hps q hq
      exact .inr ⟨by simp only at h1; omega, j, h2⟩
  rcases h with ⟨rfl, m, hm, rfl⟩ | ⟨rfl, rfl | rfl⟩
  · exact .inl (key _ fun q hq => by obtain ⟨j, _, rfl⟩ := pw_mem (pick_mem hq); exact ⟨j, rfl⟩)
  · exact .inl (key _ fun q hq => by obtain ⟨j, _, rfl⟩ := pw_mem hq; exact ⟨j, rfl⟩)
  · cases hf : f 0 with
    | false =>
      left
      have : pick f [(t.next, headS t.epoch t.recs.length l.length)] = [] := by simp [pick, hf]
      rw [this]
      exact key _ fun q hq => by obtain ⟨j, _, rfl⟩ := pw_mem hq; exact ⟨j, rfl⟩
    | true =>
      right
      have : pick f [(t.next, headS t.epoch t.recs.length l.length)] = [(t.next, headS t.epoch t.recs.length l.length)] := by simp [pick, hf]
      rw [this]
      exact hg.add hl hto hK
end Go.Proofs.Ytgppaompcnllbaa
