/- Tokens of names with a sign behind each. Conditions: at most twenty names. -/
import Derived.Test.YteafdhpcnpfmkaaGreatScanP
namespace Go.Proofs.YteafdhpcnpfmkaaGreat

/-- Texts one behind the other, a sign behind each: as the law puts them. -/
def catW (c : ByteArray) (l : List ByteArray) : ByteArray := l.foldl (fun s x => s ++ (x ++ c)) ⟨#[]⟩
theorem catW_snoc (c : ByteArray) (l : List ByteArray) (x : ByteArray) : catW c (l ++ [x]) = catW c l ++ (x ++ c) := by simp [catW]
def catR (c : ByteArray) : List ByteArray → ByteArray
  | [] => ⟨#[]⟩
  | x :: r => x ++ (c ++ catR c r)
theorem foldl_catR (c : ByteArray) : ∀ (l : List ByteArray) (s : ByteArray), l.foldl (fun s x => s ++ (x ++ c)) s = s ++ catR c l
  | [], s => (app_nil s).symm
  | x :: r, s => by
    rw [List.foldl_cons, foldl_catR c r]
    show s ++ (x ++ c) ++ catR c r = s ++ (x ++ (c ++ catR c r))
    rw [app_assoc, app_assoc]
theorem catW_catR (c : ByteArray) (l : List ByteArray) : catW c l = catR c l := by unfold catW; rw [foldl_catR, nil_app']
theorem plc_le4 (s : ByteArray) : ∀ k, plc s k ≤ 4 * k
  | 0 => Nat.le_refl _
  | k + 1 => by
    have ih := plc_le4 s k
    by_cases h : plc s k < s.size
    · rw [plc_succ h]; have := wd_le4 h; omega
    · rw [plc_stay h]; omega
theorem name_size {x : ByteArray} (h : nameS x = true) : x.size ≤ 96 := by
  have h1 := (nameS_iff.1 h).2.1
  have h2 := plc_le4 x (cnt x)
  rw [(cnt_spec x).1] at h2
  omega
theorem catR_size (q : Nat) : ∀ (l : List ByteArray), (∀ x ∈ l, nameS x = true) → (catR (sOne q) l).size ≤ 97 * l.length
  | [], _ => Nat.le_refl _
  | x :: r, h => by
    have ih := catR_size q r fun y hy => h y (List.mem_cons_of_mem _ hy)
    have h1 := name_size (h x (List.mem_cons_self ..))
    show (x ++ (sOne q ++ catR (sOne q) r)).size ≤ _
    rw [size_app, size_app, sOne_size, List.length_cons]
    omega
/-- The tokens of such a text, but for the end. -/
def wTk (q : Nat) : List ByteArray → Nat → List Tk
  | [], _ => []
  | x :: r, off => (1, x, off) :: (2, sOne q, off + x.size) :: wTk q r (off + x.size + 1)
theorem wTk_len (q : Nat) : ∀ (l : List ByteArray) (off : Nat), (wTk q l off).length = 2 * l.length
  | [], _ => rfl
  | x :: r, off => by rw [wTk, List.length_cons, List.length_cons, wTk_len q r, List.length_cons]; omega
theorem wTk_at (q : Nat) : ∀ (l : List ByteArray) (off i : Nat) (x : ByteArray), l[i]? = some x → (∃ p, (wTk q l off)[2 * i]? = some (1, x, p)) ∧ ∃ p, (wTk q l off)[2 * i + 1]? = some (2, sOne q, p)
  | [], _, _, _, h => by simp at h
  | y :: r, off, 0, x, h => by
    simp only [List.getElem?_cons_zero, Option.some.injEq] at h
    subst h
    exact ⟨⟨off, rfl⟩, ⟨off + y.size, rfl⟩⟩
  | y :: r, off, i + 1, x, h => by
    simp only [List.getElem?_cons_succ] at h
    have ih := wTk_at q r (off + y.size + 1) i x h
    rw [show 2 * (i + 1) = 2 * i + 1 + 1 by omega]
    exact ih
theorem scan_words {q : Nat} (hq : signB q = true) : ∀ (l : List ByteArray) (off : Nat), (∀ x ∈ l, nameS x = true) → scan (catR (sOne q) l) off = (wTk q l off ++ [(3, ⟨#[]⟩, off + (catR (sOne q) l).size)], 0, 0)
  | [], off, _ => scan_nil rfl
  | x :: r, off, h => by
    have hc := signB_iff.1 hq
    have ih := scan_words hq r (off + x.size + 1) fun y hy => h y (List.mem_cons_of_mem _ hy)
    have hm : 0 < (sOne q ++ catR (sOne q) r).size → mayB (sOne q ++ catR (sOne q) r) 0 = false := fun hz => by
      have h0 := ascii_first (n := q) (r := catR (sOne q) r) (by omega)
      rw [may_low hz (by omega), h0]
      rw [Bool.eq_false_iff]
      intro e
      have := byteB_iff.1 e
      omega
    have hsz : (x ++ (sOne q ++ catR (sOne q) r)).size = x.size + 1 + (catR (sOne q) r).size := by rw [size_app, size_app, sOne_size]; omega
    show scan (x ++ (sOne q ++ catR (sOne q) r)) off = (wTk q (x :: r) off ++ [(3, ⟨#[]⟩, off + (x ++ (sOne q ++ catR (sOne q) r)).size)], 0, 0)
    rw [scan_word1 (h x (List.mem_cons_self ..)) hm, scan_sign1 hq, ih, hsz, show off + (x.size + 1 + (catR (sOne q) r).size) = off + x.size + 1 + (catR (sOne q) r).size by omega]
    rfl
theorem catR_valid {q : Nat} (hq : q < 128) : ∀ (l : List ByteArray), (∀ x ∈ l, nameS x = true) → validS (catR (sOne q) l) = true
  | [], _ => show validS ⟨#[]⟩ = true by decide +kernel
  | x :: r, h => by
    have ih := catR_valid hq r fun y hy => h y (List.mem_cons_of_mem _ hy)
    have hx := name_valid (h x (List.mem_cons_self ..))
    show validS (x ++ (sOne q ++ catR (sOne q) r)) = true
    rw [sep_validS (sep_valid hx), hx, sep_validS (sep_valid (sOne_valid hq)), sOne_valid hq, ih]; rfl
theorem all_words {q : Nat} (hq : signB q = true) {l : List ByteArray} (hl : l.length ≤ 20) (h : ∀ x ∈ l, nameS x = true) :
    (catW (sOne q) l).size ≤ 1940 ∧ ∃ ts, allS (catW (sOne q) l) = (ts, 0, 0) ∧ ts.length = 2 * l.length + 1 ∧ ∀ i x, l[i]? = some x → (∃ p, ts[2 * i]? = some (1, x, p)) ∧ ∃ p, ts[2 * i + 1]? = some (2, sOne q, p) := by
  have hc := signB_iff.1 hq
  have hz := catR_size q l h
  have hE := scan_words hq l 0 h
  have hv := catR_valid (q := q) (by omega) l h
  rw [catW_catR]
  refine ⟨by omega, wTk q l 0 ++ [(3, ⟨#[]⟩, 0 + (catR (sOne q) l).size)], ?_, ?_, fun i x hi => ?_⟩
  · rw [all_ok (by omega) hv (by rw [hE]), hE]
  · rw [List.length_append, wTk_len]; rfl
  · obtain ⟨⟨p, h1⟩, ⟨p', h2⟩⟩ := wTk_at q l 0 i x hi
    have l1 := (List.getElem?_eq_some_iff.1 h1).1
    have l2 := (List.getElem?_eq_some_iff.1 h2).1
    exact ⟨⟨p, by rw [List.getElem?_append_left l1]; exact h1⟩, ⟨p', by rw [List.getElem?_append_left l2]; exact h2⟩⟩
end Go.Proofs.YteafdhpcnpfmkaaGreat
