/- What is told of a text with a broken byte put in, with a word of so many runes behind it, with a sign that is none behind it. Conditions: a text of at most 300 bytes. -/
import Derived.Test.YtdblkghombemiaaNotesF
namespace Go.Proofs.Ytdblkghombemiaa

theorem broken255 (r : ByteArray) : validS (sOne 255 ++ r) = false ∧ plc (sOne 255 ++ r) (badN (sOne 255 ++ r)) = 0 := by
  have h0 := ascii_first (n := 255) (r := r) (by omega)
  have hz : 0 < (sOne 255 ++ r).size := by rw [size_app, sOne_size]; omega
  have hb : brk (sOne 255 ++ r) 0 = true := by
    unfold brk rn wd
    rw [decode_dec _ 0 hz, h0]
    rcases dec_cases ((sOne 255 ++ r).size - 0) 255 (bt (sOne 255 ++ r) (0 + 1)) (bt (sOne 255 ++ r) (0 + 2)) (bt (sOne 255 ++ r) (0 + 3)) with ⟨c, e⟩ | ⟨c, e⟩ | ⟨c, e⟩ | ⟨c, e⟩ | ⟨c, e⟩
    · omega
    · omega
    · omega
    · omega
    · rw [e]; rfl
  have hN : badN (sOne 255 ++ r) = 0 := runN_zero (by rw [hb]; rfl)
  refine ⟨?_, by rw [hN]; rfl⟩
  rw [Bool.eq_false_iff]
  intro hv
  exact badN_valid.1 hv (by rw [hN]; exact hz)
theorem errs_a {s : ByteArray} {k : Nat} (hz : s.size ≤ 300) (hk : k ≤ s.size) :
    (allS (s.extract 0 k ++ ⟨#[255]⟩ ++ s.extract k s.size)).2.1 = 11 ∧
    (validS (s.extract 0 k) = true → (allS (s.extract 0 k ++ ⟨#[255]⟩ ++ s.extract k s.size)).2.2 = k) := by
  have ha : (s.extract 0 k).size = k := by rw [size_ext]; omega
  have hr : (s.extract k s.size).size = s.size - k := by rw [size_ext]; omega
  have h0 := ascii_first (n := 255) (r := s.extract k s.size) (by omega)
  have hb : (⟨#[255]⟩ : ByteArray) = sOne 255 := rfl
  obtain ⟨b1, b2⟩ := broken255 (s.extract k s.size)
  have hs : Sep (s.extract 0 k) (sOne 255 ++ s.extract k s.size) := sep_nc fun _ => by omega
  have hv : validS (s.extract 0 k ++ (sOne 255 ++ s.extract k s.size)) = false := by rw [sep_validS hs, b1, Bool.and_false]
  have hsz : (s.extract 0 k ++ (sOne 255 ++ s.extract k s.size)).size ≤ 2048 := by rw [size_app, size_app, sOne_size]; omega
  rw [hb, app_assoc, all_bad hsz hv]
  refine ⟨rfl, fun hva => ?_⟩
  have hl := bad_lt b1
  have := sep_bad_right hs hva hl
  rw [b2, ha] at this
  exact this

def sE : ByteArray := ⟨#[195, 169]⟩
theorem sE_valid : validS sE = true := by decide +kernel
theorem sE_cnt : cnt sE = 1 := by decide +kernel
theorem sE_may : mayB sE 0 = true := by decide +kernel
/-- So many of one rune. -/
def eS : Nat → ByteArray
  | 0 => ⟨#[]⟩
  | m + 1 => eS m ++ sE
theorem eS_all : ∀ m, validS (eS m) = true ∧ cnt (eS m) = m ∧ (eS m).size = 2 * m ∧ ∀ k, k < m → mayB (eS m) (plc (eS m) k) = true
  | 0 => ⟨by decide +kernel, by decide +kernel, rfl, fun k hk => by omega⟩
  | m + 1 => by
    obtain ⟨a, b, c, d⟩ := eS_all m
    have hs := sep_valid (b := sE) a
    refine ⟨by show validS (eS m ++ sE) = true; rw [sep_validS hs, a, sE_valid]; rfl, by show cnt (eS m ++ sE) = _; rw [sep_cnt hs, b, sE_cnt], by show (eS m ++ sE).size = _; rw [size_app, c, show sE.size = 2 from rfl]; omega, fun k hk => ?_⟩
    show mayB (eS m ++ sE) (plc (eS m ++ sE) k) = true
    by_cases h : k < m
    · rw [sep_may hs (by omega)]; exact d k h
    · obtain rfl : k = cnt (eS m) + 0 := by omega
      rw [sep_may_right hs (by rw [sE_cnt]; omega)]
      exact sE_may
/-- The same, a newline ahead: as the law puts it. -/
def wdS : Nat → ByteArray
  | 0 => ⟨#[10]⟩
  | m + 1 => wdS m ++ ⟨#[195, 169]⟩
theorem wdS_eq : ∀ m, wdS m = sOne 10 ++ eS m
  | 0 => by show sOne 10 = _; exact (app_nil _).symm
  | m + 1 => by
    show wdS m ++ sE = sOne 10 ++ (eS m ++ sE)
    rw [wdS_eq m, app_assoc]
theorem wdS_size (m : Nat) : (wdS m).size = 2 * m + 1 := by
  rw [wdS_eq, size_app, sOne_size, (eS_all m).2.2.1]; omega
theorem errs_b {s : ByteArray} {m : Nat} (hz : s.size ≤ 300) (hm : m < 40) (h0 : (allS s).2.1 = 0) :
    (m ≤ 24 → (allS (s ++ wdS m)).2.1 = 0) ∧ (24 < m → (allS (s ++ wdS m)).2 = (31, s.size + 1)) := by
  obtain ⟨a, b, c, d⟩ := eS_all m
  have h10 := ascii_first (n := 10) (r := eS m) (by omega)
  have hs10 := sep_valid (b := eS m) (sOne_valid (n := 10) (by omega))
  have hv : validS (sOne 10 ++ eS m) = true := by rw [sep_validS hs10, sOne_valid (by omega), a]; rfl
  have hsz : (sOne 10 ++ eS m).size = 2 * m + 1 := by rw [size_app, sOne_size, c]; omega
  rw [wdS_eq]
  obtain ⟨_, g2⟩ := all_sep (s := s) (b := sOne 10 ++ eS m) (by omega) h10 hv (by omega)
  obtain ⟨init, _, _, e1, e2⟩ := g2 h0
  rw [scan_blank1 rfl] at e1 e2
  have hnil : 0 < (⟨#[]⟩ : ByteArray).size → mayB ⟨#[]⟩ 0 = false := fun h => absurd h (by decide)
  constructor
  · intro h
    have hE : (scan (eS m) (s.size + 1)).2.1 = 0 := by
      rcases Nat.eq_zero_or_pos m with hm0 | hm0
      · subst hm0; rw [scan_nil rfl]
      · have hx : nameS (eS m) = true := nameS_iff.2 ⟨by omega, by omega, fun k hk => d k (by omega)⟩
        have := scan_word1 (r := ⟨#[]⟩) (off := s.size + 1) hx hnil
        rw [app_nil] at this
        rw [this, scan_nil rfl]
    rw [e1 hE]
  · intro h
    have := scan_long1 (r := ⟨#[]⟩) (off := s.size + 1) (x := eS m) (fun k hk => d k (by omega)) (by omega) hnil
    rw [app_nil] at this
    rw [this] at e2
    rw [e2 (by show ¬ (31 = 0); decide)]
theorem errs_c {s : ByteArray} {c : Nat} (hz : s.size ≤ 300) (h0 : (allS s).2.1 = 0) (h1 : c < 128) (h2 : 32 < c) (h3 : byteB c = false) (h4 : signB c = false) : (allS (s ++ ⟨#[10]⟩ ++ sOne c)).2 = (30, s.size + 1) := by
  have h10 := ascii_first (n := 10) (r := sOne c) (by omega)
  have hs10 := sep_valid (b := sOne c) (sOne_valid (n := 10) (by omega))
  have hv : validS (sOne 10 ++ sOne c) = true := by rw [sep_validS hs10, sOne_valid (by omega), sOne_valid h1]; rfl
  have hsz : (sOne 10 ++ sOne c).size = 2 := by rw [size_app, sOne_size, sOne_size]
  rw [app_assoc]
  show (allS (s ++ (sOne 10 ++ sOne c))).2 = _
  obtain ⟨_, g2⟩ := all_sep (s := s) (b := sOne 10 ++ sOne c) (by omega) h10 hv (by omega)
  obtain ⟨init, _, _, _, e2⟩ := g2 h0
  have hbl : blankB c = false := by
    rw [Bool.eq_false_iff]; intro e; have := blankB_iff.1 e; omega
  have hE : scan (sOne 10 ++ sOne c) s.size = ([], 30, s.size + 1) := by
    rw [scan_blank1 rfl]
    by_cases h47 : c = 47
    · subst h47
      have := scan_slash1 (r := ⟨#[]⟩) (off := s.size + 1) (fun h => absurd h (by decide))
      rwa [app_nil] at this
    · have := scan_other1 (r := ⟨#[]⟩) (off := s.size + 1) h1 hbl h4 h47 h3
      rwa [app_nil] at this
  rw [hE] at e2
  rw [e2 (by show ¬ (30 = 0); decide)]
end Go.Proofs.Ytdblkghombemiaa
