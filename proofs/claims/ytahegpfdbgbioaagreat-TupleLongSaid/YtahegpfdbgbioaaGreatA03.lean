import Derived.Lib.CutLaws
import Derived.Shelf.Small.Strs
import Derived.Shelf.Strings.Search1
import Derived.BigQuiet
import Derived.Deep.QuietTactic
import Derived.IntWalk
import Derived.BigGuard
import Derived.BigCall
import Derived.Laws.Strings3
import Derived.Shelf.RegionOpenPlain
import Derived.Lib.OthersKept
import Derived.ProofKit
import Derived.OpenShut
import Derived.ShutString
import Derived.ChangeOld
import Derived.SliceStrings
import Derived.ChangeMaps
import Derived.Test.YtahegpfdbgbioaaGreatProg
import Derived.Test.YtahegpfdbgbioaaGreatRows
import Derived.Test.YtahegpfdbgbioaaGreatA01
import Derived.Test.YtahegpfdbgbioaaGreatA02
set_option maxRecDepth 100000
set_option maxHeartbeats 4000000
namespace Go.Proofs.YtahegpfdbgbioaaGreat
def NoB (c : Nat) (s : ByteArray) : Prop := ∀ k, k < s.size → bt s k ≠ c
theorem NoB.nil (c : Nat) : NoB c ⟨#[]⟩ := fun _ hk => absurd hk (Nat.not_lt_zero _)
theorem NoB.one {c d : Nat} (hd : d < 256) (h : d ≠ c) : NoB c (sOne d) := fun k hk => by
 have : k = 0 := by have := sOne_size d; omega
 subst this
 rw [sOne_bt hd]
 exact h
theorem NoB.app {c : Nat} {a b : ByteArray} (ha : NoB c a) (hb : NoB c b) : NoB c (a ++ b) := fun k hk => by
 rw [size_app] at hk
 rcases Nat.lt_or_ge k a.size with h | h
 · rw [bt_app_left a b k h]; exact ha k h
 · obtain ⟨j, rfl⟩ : ∃ j, k = a.size + j := ⟨k - a.size, by omega⟩
   rw [bt_app_right a b j (by omega)]
   exact hb j (by omega)
theorem NoB.name {c : Nat} {s : ByteArray} (h : nameS s = true) (hc : c < 128) (hb : byteB c = false) : NoB c s := fun k hk he => by
 obtain ⟨_, _, hm⟩ := nameS_iff.1 h
 obtain ⟨j, h1, h2⟩ := rune_at (cnt s) (by rw [(cnt_spec s).1]; exact hk)
 have hj : plc s j < s.size := by omega
 rw [plc_succ hj] at h2
 rcases Nat.eq_or_lt_of_le h1 with e | e
 · have := hm j (lt_cnt.2 hj)
   rw [e, may_low hk (by omega), he, hb] at this
   cases this
 · have := inner_byte hj e h2
   omega
def fstC (s : ByteArray) (c : Nat) : Nat := least (fun k => decide (bt s k = c) || decide (s.size ≤ k)) s.size 0
theorem fstC_spec (s : ByteArray) (c : Nat) : fstC s c ≤ s.size ∧ (fstC s c < s.size → bt s (fstC s c) = c) ∧ ∀ j, j < fstC s c → bt s j ≠ c := by
 obtain ⟨h1, _, h3⟩ := least_spec (fun k => decide (bt s k = c) || decide (s.size ≤ k)) s.size 0 ⟨s.size, by omega, by omega, by simp⟩
 have hle : fstC s c ≤ s.size := by
  rcases Nat.lt_or_ge s.size (fstC s c) with h | h
  · have := h3 s.size (by omega) h
    simp at this
  · exact h
 refine ⟨hle, fun h => ?_, fun j hj he => ?_⟩
 · have : (decide (bt s (fstC s c) = c) || decide (s.size ≤ fstC s c)) = true := h1
   rw [decide_eq_false (show ¬ s.size ≤ fstC s c by omega), Bool.or_false] at this
   exact of_decide_eq_true this
 · have := h3 j (by omega) hj
   simp [he] at this
theorem fstC_eq {s : ByteArray} {c k : Nat} (h : bt s k = c ∨ k = s.size) (hk : k ≤ s.size) (hn : ∀ j, j < k → bt s j ≠ c) : fstC s c = k :=
 least_eq (by rcases h with h | h <;> simp [h]) (fun j hj => by
  have := hn j hj
  simp [this]; omega) hk
def cutC (s : ByteArray) (c : Nat) : ByteArray × ByteArray := (s.extract 0 (fstC s c), s.extract (fstC s c + 1) s.size)
theorem cutC_size (s : ByteArray) (c : Nat) : (cutC s c).1.size = fstC s c := by
 have := (fstC_spec s c).1
 unfold cutC
 rw [size_ext]
 omega
theorem cutC_size2 (s : ByteArray) (c : Nat) : (cutC s c).2.size ≤ s.size := by
 unfold cutC
 rw [size_ext]
 omega
theorem cutC_join {s : ByteArray} {c : Nat} (h : fstC s c < s.size) : (cutC s c).1 ++ sOne c ++ (cutC s c).2 = s := by
 have hs := fstC_spec s c
 have h1 := cutC_size s c
 have hc : c < 256 := by rw [← hs.2.1 h]; exact bt_lt _ _
 have h2 : (cutC s c).2.size = s.size - (fstC s c + 1) := by unfold cutC; rw [size_ext]; omega
 refine bt_ext (by rw [size_app, size_app, h1, h2, sOne_size]; omega) fun k hk => ?_
 rcases Nat.lt_trichotomy k (fstC s c) with g | g | g
 · rw [bt_app_left _ _ _ (by rw [size_app, h1]; omega), bt_app_left _ _ _ (by omega)]
   unfold cutC
   rw [bt_ext_get _ _ _ _ (by omega), Nat.zero_add]
 · subst g
   rw [bt_app_left _ _ _ (by rw [size_app, h1, sOne_size]; omega)]
   have := bt_app_right (cutC s c).1 (sOne c) 0 (by rw [sOne_size]; omega)
   rw [Nat.add_zero, h1] at this
   rw [this, sOne_bt hc, hs.2.1 h]
 · have hz : ((cutC s c).1 ++ sOne c).size = fstC s c + 1 := by rw [size_app, h1, sOne_size]
   obtain ⟨j, rfl⟩ : ∃ j, k = fstC s c + 1 + j := ⟨k - (fstC s c + 1), by omega⟩
   rw [size_app, hz, h2] at hk
   have h3 := bt_app_right ((cutC s c).1 ++ sOne c) (cutC s c).2 j (by omega)
   rw [hz] at h3
   rw [h3]
   unfold cutC
   rw [bt_ext_get _ _ _ _ (by omega)]
theorem cutC_end {s : ByteArray} {c : Nat} (h : ¬ fstC s c < s.size) : cutC s c = (s, ⟨#[]⟩) := by
 have he : fstC s c = s.size := by have := (fstC_spec s c).1; omega
 unfold cutC
 rw [he, ext_all]
 congr 1
 exact nil_size (by rw [size_ext]; omega)
theorem fstC_hit {a b : ByteArray} {c : Nat} (hc : c < 256) (h : NoB c a) : fstC (a ++ sOne c ++ b) c = a.size := by
 refine fstC_eq (.inl ?_) (by rw [size_app, size_app]; omega) fun j hj => ?_
 · rw [bt_app_left _ _ _ (by rw [size_app, sOne_size]; omega)]
   have := bt_app_right a (sOne c) 0 (by rw [sOne_size]; omega)
   rw [Nat.add_zero] at this
   rw [this, sOne_bt hc]
 · rw [bt_app_left _ _ _ (by rw [size_app]; omega), bt_app_left _ _ _ hj]
   exact h j hj
theorem fstC_miss {a : ByteArray} {c : Nat} (h : NoB c a) : fstC a c = a.size := fstC_eq (.inr rfl) (Nat.le_refl _) h
theorem cutC_hit {a b : ByteArray} {c : Nat} (hc : c < 256) (h : NoB c a) : cutC (a ++ sOne c ++ b) c = (a, b) := by
 unfold cutC
 rw [fstC_hit hc h]
 congr 1
 · refine bt_ext (by rw [size_ext, size_app, size_app]; omega) fun k hk => ?_
   rw [size_ext] at hk
   rw [bt_ext_get _ _ _ _ (by omega), Nat.zero_add, bt_app_left _ _ _ (by rw [size_app]; omega), bt_app_left _ _ _ (by omega)]
 · have := app_right (a ++ sOne c) b
   rw [size_app a, sOne_size] at this
   exact this
theorem cutC_miss {a : ByteArray} {c : Nat} (h : NoB c a) : cutC a c = (a, ⟨#[]⟩) := cutC_end (by rw [fstC_miss h]; omega)
abbrev NdP := ByteArray × ByteArray × ByteArray
def fmdN (n : NdP) : Bool := nameS n.1 && nameS n.2.1 && (decide (n.2.2 = ⟨#[]⟩) || nameS n.2.2)
theorem fmdN_iff {n : NdP} : fmdN n = true ↔ nameS n.1 = true ∧ nameS n.2.1 = true ∧ (n.2.2 = ⟨#[]⟩ ∨ nameS n.2.2 = true) := by
 unfold fmdN
 rw [Bool.and_eq_true, Bool.and_eq_true, Bool.or_eq_true, decide_eq_true_iff, and_assoc]
def objN (n : NdP) : ByteArray := n.1 ++ sOne 58 ++ n.2.1
def showN (n : NdP) : ByteArray := if n.2.2 = ⟨#[]⟩ then objN n else objN n ++ (sOne 35 ++ n.2.2)
theorem fmdN_no {n : NdP} (h : fmdN n = true) {c : Nat} (hc : c < 128) (hb : byteB c = false) : NoB c n.1 ∧ NoB c n.2.1 ∧ NoB c n.2.2 := by
 obtain ⟨h1, h2, h3⟩ := fmdN_iff.1 h
 refine ⟨.name h1 hc hb, .name h2 hc hb, ?_⟩
 rcases h3 with h3 | h3
 · rw [h3]; exact .nil c
 · exact .name h3 hc hb
def cutN (s : ByteArray) : NdP := ((cutC (cutC s 35).1 58).1, (cutC (cutC s 35).1 58).2, (cutC s 35).2)
def readN (s : ByteArray) : Option NdP := if fmdN (cutN s) = true ∧ showN (cutN s) = s then some (cutN s) else none
theorem cut_show {n : NdP} (h : fmdN n = true) : cutN (showN n) = n := by
 obtain ⟨a1, a2, a3⟩ := fmdN_no h (c := 35) (by omega) (by decide)
 obtain ⟨b1, b2, b3⟩ := fmdN_no h (c := 58) (by omega) (by decide)
 have ho : NoB 35 (objN n) := (a1.app (.one (by omega) (by omega))).app a2
 have hx : cutC (objN n) 58 = (n.1, n.2.1) := cutC_hit (by omega) b1
 unfold cutN showN
 by_cases hr : n.2.2 = ⟨#[]⟩
 · rw [if_pos hr, cutC_miss ho, hx]
   obtain ⟨x, y, z⟩ := n
   dsimp only at hr ⊢
   rw [hr]
 · rw [if_neg hr, ← ByteArray.append_assoc, cutC_hit (by omega) ho, hx]
theorem read_show {n : NdP} (h : fmdN n = true) : readN (showN n) = some n := by
 unfold readN
 rw [cut_show h, if_pos ⟨h, rfl⟩]
theorem read_some {s : ByteArray} {n : NdP} (h : readN s = some n) : fmdN n = true ∧ showN n = s := by
 unfold readN at h
 by_cases hc : fmdN (cutN s) = true ∧ showN (cutN s) = s
 · rw [if_pos hc] at h
   rw [← Option.some.inj h]
   exact hc
 · rw [if_neg hc] at h
   exact absurd h (by simp)
theorem show_size (n : NdP) : 0 < (showN n).size := by
 unfold showN objN
 split <;> simp only [size_app, sOne_size] <;> omega
theorem read_nil : readN ⟨#[]⟩ = none := by
 cases h : readN ⟨#[]⟩ with
 | none => rfl
 | some n =>
  have := (read_some h).2
  have hz := show_size n
  rw [this] at hz
  cases hz
theorem show_no {n : NdP} (h : fmdN n = true) : NoB 64 (showN n) := by
 obtain ⟨a1, a2, a3⟩ := fmdN_no h (c := 64) (by omega) (by decide)
 have ho : NoB 64 (objN n) := (a1.app (.one (by omega) (by omega))).app a2
 unfold showN
 split
 · exact ho
 · exact ho.app ((NoB.one (by omega) (by omega)).app a3)
abbrev TuP := NdP × NdP
def fmdT (t : TuP) : Bool := !decide (t.1.2.2 = ⟨#[]⟩) && fmdN t.1 && fmdN t.2
theorem fmdT_iff {t : TuP} : fmdT t = true ↔ t.1.2.2 ≠ ⟨#[]⟩ ∧ fmdN t.1 = true ∧ fmdN t.2 = true := by
 unfold fmdT
 rw [Bool.and_eq_true, Bool.and_eq_true, Bool.not_eq_true', decide_eq_false_iff_not, and_assoc]
def textT (t : TuP) : ByteArray := showN t.1 ++ sOne 64 ++ showN t.2
def parseT (s : ByteArray) : Option TuP :=
 match readN (cutC s 64).1, readN (cutC s 64).2 with
 | some a, some b => if a.2.2 = ⟨#[]⟩ then none else some (a, b)
 | _, _ => none
theorem parse_text {t : TuP} (h : fmdT t = true) : parseT (textT t) = some t := by
 obtain ⟨h1, h2, h3⟩ := fmdT_iff.1 h
 unfold parseT textT
 rw [cutC_hit (by omega) (show_no h2), read_show h2, read_show h3]
 dsimp only
 rw [if_neg h1]
theorem parse_some {s : ByteArray} {t : TuP} (h : parseT s = some t) : fmdT t = true ∧ textT t = s := by
 unfold parseT at h
 cases ha : readN (cutC s 64).1 with
 | none => rw [ha] at h; cases h
 | some a =>
  cases hb : readN (cutC s 64).2 with
  | none => rw [ha, hb] at h; cases h
  | some b =>
   rw [ha, hb] at h
   dsimp only at h
   split at h
   · cases h
   · rename_i hr
     cases h
     obtain ⟨a1, a2⟩ := read_some ha
     obtain ⟨b1, b2⟩ := read_some hb
     refine ⟨fmdT_iff.2 ⟨hr, a1, b1⟩, ?_⟩
     unfold textT
     dsimp only
     rw [a2, b2]
     by_cases hf : fstC s 64 < s.size
     · exact cutC_join hf
     · rw [cutC_end hf, read_nil] at hb
       cases hb
def namesT (t : TuP) : List ByteArray := [t.1.1, t.1.2.1, t.1.2.2, t.2.1, t.2.2.1, t.2.2.2]
def keyL : List ByteArray → ByteArray
 | [] => ⟨#[]⟩
 | [x] => x
 | x :: y :: r => x ++ sOne 0 ++ keyL (y :: r)
def keyT (t : TuP) : ByteArray := keyL (namesT t)
def cutL : Nat → ByteArray → List ByteArray
 | 0, _ => []
 | n + 1, s => (cutC s 0).1 :: cutL n (cutC s 0).2
def tupL (l : List ByteArray) : TuP := ((l.getD 0 ⟨#[]⟩, l.getD 1 ⟨#[]⟩, l.getD 2 ⟨#[]⟩), (l.getD 3 ⟨#[]⟩, l.getD 4 ⟨#[]⟩, l.getD 5 ⟨#[]⟩))
theorem tupL_names (t : TuP) : tupL (namesT t) = t := rfl
def fromT (s : ByteArray) : Option TuP := if fmdT (tupL (cutL 6 s)) = true ∧ keyT (tupL (cutL 6 s)) = s then some (tupL (cutL 6 s)) else none
theorem fmdT_no {t : TuP} (h : fmdT t = true) : ∀ x ∈ namesT t, NoB 0 x := by
 obtain ⟨_, h2, h3⟩ := fmdT_iff.1 h
 obtain ⟨a1, a2, a3⟩ := fmdN_no h2 (c := 0) (by omega) (by decide)
 obtain ⟨b1, b2, b3⟩ := fmdN_no h3 (c := 0) (by omega) (by decide)
 intro x hx
 simp only [namesT, List.mem_cons, List.not_mem_nil, or_false] at hx
 rcases hx with rfl | rfl | rfl | rfl | rfl | rfl <;> assumption
theorem cut_key : ∀ l : List ByteArray, (∀ x ∈ l, NoB 0 x) → cutL l.length (keyL l) = l
 | [], _ => rfl
 | [x], h => by
  show (cutC x 0).1 :: [] = [x]
  rw [cutC_miss (h x (List.mem_cons_self ..))]
 | x :: y :: r, h => by
  show (cutC (x ++ sOne 0 ++ keyL (y :: r)) 0).1 :: cutL (y :: r).length (cutC (x ++ sOne 0 ++ keyL (y :: r)) 0).2 = _
  rw [cutC_hit (by omega) (h x (List.mem_cons_self ..))]
  dsimp only
  rw [cut_key (y :: r) fun z hz => h z (List.mem_cons_of_mem _ hz)]
theorem from_key {t : TuP} (h : fmdT t = true) : fromT (keyT t) = some t := by
 have hc : cutL 6 (keyT t) = namesT t := cut_key (namesT t) (fmdT_no h)
 unfold fromT
 rw [hc, tupL_names, if_pos ⟨h, rfl⟩]
theorem from_some {s : ByteArray} {t : TuP} (h : fromT s = some t) : fmdT t = true ∧ keyT t = s := by
 unfold fromT at h
 split at h
 · rename_i hc
   cases h
   exact hc
 · cases h
theorem from_is {s : ByteArray} {t : TuP} : fromT s = some t ↔ fmdT t = true ∧ keyT t = s := ⟨from_some, fun ⟨h1, h2⟩ => by rw [← h2]; exact from_key h1⟩
def zerosB : Nat → ByteArray → Bool
 | 0, _ => true
 | n + 1, s => decide (fstC s 0 < s.size) && zerosB n (cutC s 0).2
def restB : Nat → ByteArray → ByteArray
 | 0, s => s
 | n + 1, s => restB n (cutC s 0).2
theorem zeros_key : ∀ l : List ByteArray, ∀ x, (∀ y ∈ l, NoB 0 y) → zerosB l.length (keyL (l ++ [x])) = true ∧ restB l.length (keyL (l ++ [x])) = x ∧ cutL l.length (keyL (l ++ [x])) = l
 | [], _, _ => ⟨rfl, rfl, rfl⟩
 | a :: r, x, h => by
  obtain ⟨h1, h2, h3⟩ := zeros_key r x fun y hy => h y (List.mem_cons_of_mem _ hy)
  obtain ⟨b, q, e⟩ : ∃ b q, r ++ [x] = b :: q := by cases r with
   | nil => exact ⟨_, _, rfl⟩
   | cons c r => exact ⟨_, _, rfl⟩
  have hk : keyL (a :: r ++ [x]) = a ++ sOne 0 ++ keyL (r ++ [x]) := by rw [List.cons_append, e]; rfl
  have ha := h a (List.mem_cons_self ..)
  have hs : fstC (a ++ sOne 0 ++ keyL (r ++ [x])) 0 < (a ++ sOne 0 ++ keyL (r ++ [x])).size := by
   rw [fstC_hit (by omega) ha, size_app, size_app, sOne_size]
   omega
  rw [hk]
  refine ⟨?_, ?_, ?_⟩
  · show (decide _ && zerosB r.length _) = true
    rw [decide_eq_true hs, cutC_hit (by omega) ha, h1]
    rfl
  · show restB r.length _ = x
    rw [cutC_hit (by omega) ha, h2]
  · show _ :: cutL r.length _ = _
    rw [cutC_hit (by omega) ha, h3]
theorem key_zeros : ∀ (n : Nat) (s : ByteArray), zerosB n s = true → keyL (cutL n s ++ [restB n s]) = s
 | 0, _, _ => rfl
 | n + 1, s, h => by
  have h' : (decide (fstC s 0 < s.size) && zerosB n (cutC s 0).2) = true := h
  rw [Bool.and_eq_true, decide_eq_true_iff] at h'
  have ih := key_zeros n (cutC s 0).2 h'.2
  obtain ⟨b, q, e⟩ : ∃ b q, cutL n (cutC s 0).2 ++ [restB n (cutC s 0).2] = b :: q := by
   cases cutL n (cutC s 0).2 with
   | nil => exact ⟨_, _, rfl⟩
   | cons c r => exact ⟨_, _, rfl⟩
  show keyL ((cutC s 0).1 :: (cutL n (cutC s 0).2 ++ [restB n (cutC s 0).2])) = s
  rw [e] at ih ⊢
  show (cutC s 0).1 ++ sOne 0 ++ keyL (b :: q) = s
  rw [ih]
  exact cutC_join h'.1
theorem cutL_len : ∀ (n : Nat) (s : ByteArray), (cutL n s).length = n
 | 0, _ => rfl
 | n + 1, _ => congrArg (· + 1) (cutL_len n _)
theorem len5 {l : List ByteArray} (h : l.length = 5) : ∃ a b c d e, l = [a, b, c, d, e] := by
 match l, h with
 | [a, b, c, d, e], _ => exact ⟨a, b, c, d, e, rfl⟩
theorem from_zeros (s : ByteArray) : fromT s = if zerosB 5 s = true ∧ fmdT (tupL (cutL 5 s ++ [restB 5 s])) = true then some (tupL (cutL 5 s ++ [restB 5 s])) else none := by
 by_cases h : zerosB 5 s = true ∧ fmdT (tupL (cutL 5 s ++ [restB 5 s])) = true
 · rw [if_pos h]
   refine from_is.2 ⟨h.2, ?_⟩
   obtain ⟨a, b, c, d, e, hl⟩ := len5 (cutL_len 5 s)
   have := key_zeros 5 s h.1
   rw [hl] at this ⊢
   exact this
 · rw [if_neg h]
   cases hf : fromT s with
   | none => rfl
   | some t =>
    obtain ⟨h1, h2⟩ := from_some hf
    have hn := fmdT_no h1
    obtain ⟨z1, z2, z3⟩ := zeros_key [t.1.1, t.1.2.1, t.1.2.2, t.2.1, t.2.2.1] t.2.2.2 fun y hy => hn y (List.mem_append_left [t.2.2.2] hy)
    have hk : keyL ([t.1.1, t.1.2.1, t.1.2.2, t.2.1, t.2.2.1] ++ [t.2.2.2]) = s := h2
    rw [hk] at z1 z2 z3
    refine absurd ⟨z1, ?_⟩ h
    have e1 : cutL 5 s = [t.1.1, t.1.2.1, t.1.2.2, t.2.1, t.2.2.1] := z3
    have e2 : restB 5 s = t.2.2.2 := z2
    rw [e1, e2]
    exact h1
def cmpB (a b : ByteArray) : Int := if less a b = true then -1 else if less b a = true then 1 else 0
theorem less_self (a : ByteArray) : less a a = false := less_right (Nat.le_refl _) fun _ _ => rfl
theorem bl_asym : ∀ x y : List UInt8, Op.bytesLess x y = true → Op.bytesLess y x = false
 | [], [], h => by cases h
 | [], _ :: _, _ => rfl
 | _ :: _, [], h => by cases h
 | c :: x, d :: y, h => by
  have h' : (decide (c < d) || (c == d && Op.bytesLess x y)) = true := h
  show (decide (d < c) || (d == c && Op.bytesLess y x)) = false
  rw [Bool.or_eq_true, decide_eq_true_iff, Bool.and_eq_true, beq_iff_eq] at h'
  rcases h' with h' | ⟨rfl, h'⟩
  · have h1 : ¬ d < c := fun q => by rw [UInt8.lt_iff_toNat_lt] at *; omega
    have h2 : ¬ d = c := fun q => by subst q; rw [UInt8.lt_iff_toNat_lt] at h'; omega
    rw [decide_eq_false h1, beq_eq_false_iff_ne.2 h2]
    rfl
  · rw [bl_asym x y h', decide_eq_false (by rw [UInt8.lt_iff_toNat_lt]; omega)]
    simp
theorem bl_total : ∀ x y : List UInt8, x ≠ y → Op.bytesLess x y = false → Op.bytesLess y x = true
 | [], [], h, _ => absurd rfl h
 | [], _ :: _, _, h => by cases h
 | _ :: _, [], _, _ => rfl
 | c :: x, d :: y, hne, h => by
  have h' : (decide (c < d) || (c == d && Op.bytesLess x y)) = false := h
  show (decide (d < c) || (d == c && Op.bytesLess y x)) = true
  rw [Bool.or_eq_false_iff, decide_eq_false_iff_not] at h'
  by_cases e : c = d
  · subst e
    have : Op.bytesLess x y = false := by simpa using h'.2
    rw [bl_total x y (fun q => hne (by rw [q])) this]
    simp
  · have : d < c := by
     have h1 := h'.1
     rw [UInt8.lt_iff_toNat_lt] at *
     have : c.toNat ≠ d.toNat := fun q => e (UInt8.toNat_inj.1 q)
     omega
    rw [decide_eq_true this]
    rfl
theorem less_asym {a b : ByteArray} (h : less a b = true) : less b a = false := bl_asym _ _ h
theorem less_total {a b : ByteArray} (hne : a ≠ b) (h : less a b = false) : less b a = true := by
 refine bl_total _ _ (fun q => hne ?_) h
 rw [ByteArray.toList_eq, ByteArray.toList_eq] at q
 exact ByteArray.ext (Array.toList_inj.1 q)
theorem cmpB_self (a : ByteArray) : cmpB a a = 0 := by unfold cmpB; rw [less_self]; rfl
theorem cmpB_zero {a b : ByteArray} : cmpB a b = 0 ↔ a = b := by
 refine ⟨fun h => ?_, fun h => by rw [h, cmpB_self]⟩
 rcases Decidable.em (a = b) with e | e
 · exact e
 · unfold cmpB at h
   cases hl : less a b with
   | true => rw [hl] at h; cases h
   | false =>
    rw [hl, less_total e hl] at h
    cases h
theorem cmpB_neg (a b : ByteArray) : cmpB b a = - cmpB a b := by
 unfold cmpB
 cases h1 : less a b with
 | true => rw [less_asym h1]; rfl
 | false =>
  cases h2 : less b a with
  | true => rfl
  | false => rfl
theorem compare_is : ∀ x y : List UInt8, Lib.compareBytes x y = if Op.bytesLess x y = true then -1 else if Op.bytesLess y x = true then 1 else 0
 | [], [] => rfl
 | [], _ :: _ => rfl
 | _ :: _, [] => rfl
 | c :: x, d :: y => by
  show (if c < d then (-1 : Int) else if d < c then 1 else Lib.compareBytes x y) = if (decide (c < d) || (c == d && Op.bytesLess x y)) = true then -1 else if (decide (d < c) || (d == c && Op.bytesLess y x)) = true then 1 else 0
  by_cases h1 : c < d
  · rw [if_pos h1, decide_eq_true h1, Bool.true_or, if_pos rfl]
  · by_cases h2 : d < c
    · have hne : ¬ c = d := fun q => by subst q; rw [UInt8.lt_iff_toNat_lt] at h2; omega
      rw [if_neg h1, if_pos h2, decide_eq_false h1, decide_eq_true h2, beq_eq_false_iff_ne.2 hne]
      rfl
    · have he : c = d := by
       rw [UInt8.lt_iff_toNat_lt] at *
       exact UInt8.toNat_inj.1 (by omega)
      subst he
      rw [if_neg h1, if_neg h1, decide_eq_false h1, compare_is x y]
      simp
theorem compareB_is (a b : ByteArray) : Lib.compareBytes a.data.toList b.data.toList = cmpB a b := by
 rw [compare_is]
 unfold cmpB less
 rw [ByteArray.toList_eq, ByteArray.toList_eq]
def cmpL : List ByteArray → List ByteArray → Int
 | x :: r, y :: q => if x = y then cmpL r q else cmpB x y
 | _, _ => 0
def cmpT (a b : TuP) : Int := cmpL (namesT a) (namesT b)
theorem cmpL_neg : ∀ l m : List ByteArray, cmpL m l = - cmpL l m
 | [], [] => rfl
 | [], _ :: _ => rfl
 | _ :: _, [] => rfl
 | x :: r, y :: q => by
  show (if y = x then cmpL q r else cmpB y x) = - (if x = y then cmpL r q else cmpB x y)
  by_cases h : x = y
  · rw [if_pos h, if_pos h.symm, cmpL_neg r q]
  · rw [if_neg h, if_neg (fun e => h e.symm), cmpB_neg]
theorem cmpL_zero : ∀ l m : List ByteArray, l.length = m.length → (cmpL l m = 0 ↔ l = m)
 | [], [], _ => ⟨fun _ => rfl, fun _ => rfl⟩
 | [], _ :: _, h => by cases h
 | _ :: _, [], h => by cases h
 | x :: r, y :: q, h => by
  show (if x = y then cmpL r q else cmpB x y) = 0 ↔ _
  by_cases e : x = y
  · subst e
    rw [if_pos rfl, cmpL_zero r q (by simpa using h)]
    simp
  · rw [if_neg e, cmpB_zero]
    simp [e]
theorem bl_zero : ∀ x y p q : List UInt8, (∀ c ∈ x, c ≠ 0) → (∀ c ∈ y, c ≠ 0) → x ≠ y → Op.bytesLess (x ++ 0 :: p) (y ++ 0 :: q) = Op.bytesLess x y ∧ x ++ 0 :: p ≠ y ++ 0 :: q
 | [], [], _, _, _, _, h => absurd rfl h
 | [], d :: y, p, q, _, hy, _ => by
  have hd := hy d (List.mem_cons_self ..)
  have h0 : (0 : UInt8) < d := by
   rw [UInt8.lt_iff_toNat_lt]
   have : d.toNat ≠ 0 := fun e => hd (UInt8.toNat_inj.1 e)
   show 0 < d.toNat
   omega
  refine ⟨?_, fun e => hd (by injection e with e1 _; exact e1.symm)⟩
  show (decide ((0 : UInt8) < d) || _) = true
  rw [decide_eq_true h0]
  rfl
 | c :: x, [], p, q, hx, _, _ => by
  have hc := hx c (List.mem_cons_self ..)
  refine ⟨?_, fun e => hc (by injection e with e1 _)⟩
  show (decide (c < (0 : UInt8)) || (c == 0 && _)) = false
  rw [decide_eq_false (by rw [UInt8.lt_iff_toNat_lt]; exact Nat.not_lt_zero _), beq_eq_false_iff_ne.2 hc]
  rfl
 | c :: x, d :: y, p, q, hx, hy, hne => by
  show (decide (c < d) || (c == d && Op.bytesLess (x ++ 0 :: p) (y ++ 0 :: q))) = (decide (c < d) || (c == d && Op.bytesLess x y)) ∧ c :: (x ++ 0 :: p) ≠ d :: (y ++ 0 :: q)
  by_cases e : c = d
  · subst e
    obtain ⟨h1, h2⟩ := bl_zero x y p q (fun z hz => hx z (List.mem_cons_of_mem _ hz)) (fun z hz => hy z (List.mem_cons_of_mem _ hz)) fun h => hne (by rw [h])
    rw [h1]
    exact ⟨rfl, fun h => h2 (by injection h)⟩
  · rw [beq_eq_false_iff_ne.2 e]
    exact ⟨rfl, fun h => e (by injection h)⟩
theorem NoB.list {s : ByteArray} (h : NoB 0 s) : ∀ c ∈ s.data.toList, c ≠ 0 := fun c hc e => by
 obtain ⟨k, hk, rfl⟩ := List.getElem_of_mem hc
 have hk' : k < s.size := by simpa using hk
 have h1 := bt_list s k hk'
 rw [List.getElem?_eq_getElem hk] at h1
 have h2 := Option.some.inj h1
 rw [h2] at e
 have := congrArg UInt8.toNat e
 have hb := bt_lt s k
 have h0 := h k hk'
 simp at this
 omega
theorem data_sep (x k : ByteArray) : (x ++ sOne 0 ++ k).data.toList = x.data.toList ++ 0 :: k.data.toList := by
 rw [ByteArray.data_append, ByteArray.data_append, Array.toList_append, Array.toList_append, List.append_assoc]
 rfl
theorem ba_inj {a b : ByteArray} (h : a.data.toList = b.data.toList) : a = b := ByteArray.ext (Array.toList_inj.1 h)
theorem key_order : ∀ l m : List ByteArray, l.length = m.length → (∀ x ∈ l, NoB 0 x) → (∀ x ∈ m, NoB 0 x) → less (keyL l) (keyL m) = decide (cmpL l m < 0) ∧ (keyL l = keyL m ↔ l = m)
 | [], [], _, _, _ => ⟨less_self _, ⟨fun _ => rfl, fun _ => rfl⟩⟩
 | [], _ :: _, h, _, _ => by cases h
 | _ :: _, [], h, _, _ => by cases h
 | [x], [y], _, _, _ => by
  show less x y = decide ((if x = y then cmpL [] [] else cmpB x y) < 0) ∧ (x = y ↔ _)
  refine ⟨?_, by simp⟩
  by_cases e : x = y
  · subst e
    rw [if_pos rfl, less_self]
    rfl
  · rw [if_neg e]
    unfold cmpB
    cases h1 : less x y with
    | true => rfl
    | false =>
     rw [less_total e h1]
     rfl
 | [_], _ :: _ :: _, h, _, _ => by simp at h
 | _ :: _ :: _, [_], h, _, _ => by simp at h
 | x :: a :: r, y :: b :: q, hl, hx, hy => by
  obtain ⟨h1, h2⟩ := key_order (a :: r) (b :: q) (by simpa using hl) (fun z hz => hx z (List.mem_cons_of_mem _ hz)) fun z hz => hy z (List.mem_cons_of_mem _ hz)
  show less (x ++ sOne 0 ++ keyL (a :: r)) (y ++ sOne 0 ++ keyL (b :: q)) = decide ((if x = y then cmpL (a :: r) (b :: q) else cmpB x y) < 0) ∧ (x ++ sOne 0 ++ keyL (a :: r) = y ++ sOne 0 ++ keyL (b :: q) ↔ _)
  by_cases e : x = y
  · subst e
    rw [if_pos rfl, ← h1]
    constructor
    · unfold less
      rw [ByteArray.toList_eq, ByteArray.toList_eq, ByteArray.toList_eq, ByteArray.toList_eq, data_sep, data_sep, bl_pre]
      show (decide ((0 : UInt8) < 0) || ((0 : UInt8) == 0 && _)) = _
      simp
    · constructor
      · intro h
        have := congrArg (fun z : ByteArray => z.data.toList) h
        rw [data_sep, data_sep, List.append_cancel_left_eq] at this
        injection this with _ h3
        rw [h2.1 (ba_inj h3)]
      · intro h
        injection h with _ h3
        rw [h2.2 h3]
  · obtain ⟨g1, g2⟩ := bl_zero x.data.toList y.data.toList (keyL (a :: r)).data.toList (keyL (b :: q)).data.toList (hx x (List.mem_cons_self ..)).list (hy y (List.mem_cons_self ..)).list fun h => e (ba_inj h)
    rw [if_neg e]
    constructor
    · have h3 : less (x ++ sOne 0 ++ keyL (a :: r)) (y ++ sOne 0 ++ keyL (b :: q)) = less x y := by
       unfold less
       rw [ByteArray.toList_eq, ByteArray.toList_eq, ByteArray.toList_eq, ByteArray.toList_eq, data_sep, data_sep, g1]
      rw [h3]
      unfold cmpB
      cases h4 : less x y with
      | true => rfl
      | false =>
       rw [less_total e h4]
       rfl
    · constructor
      · intro h
        have := congrArg (fun z : ByteArray => z.data.toList) h
        rw [data_sep, data_sep] at this
        exact absurd this g2
      · intro h
        injection h with h3 _
        exact absurd h3 e
theorem names_inj {a b : TuP} (h : namesT a = namesT b) : a = b := by rw [← tupL_names a, ← tupL_names b, h]
theorem cmpT_neg (a b : TuP) : cmpT b a = - cmpT a b := cmpL_neg _ _
theorem cmpT_zero {a b : TuP} : cmpT a b = 0 ↔ a = b := by
 unfold cmpT
 rw [cmpL_zero (namesT a) (namesT b) rfl]
 exact ⟨names_inj, fun h => by rw [h]⟩
theorem keyT_order {a b : TuP} (ha : fmdT a = true ∨ fmdN a.1 = true ∧ fmdN a.2 = true) (hb : fmdT b = true ∨ fmdN b.1 = true ∧ fmdN b.2 = true) : less (keyT a) (keyT b) = decide (cmpT a b < 0) ∧ (keyT a = keyT b ↔ a = b) := by
 have no : ∀ t : TuP, (fmdT t = true ∨ fmdN t.1 = true ∧ fmdN t.2 = true) → ∀ x ∈ namesT t, NoB 0 x := by
  intro t ht
  obtain ⟨h2, h3⟩ : fmdN t.1 = true ∧ fmdN t.2 = true := by
   rcases ht with ht | ht
   · exact (fmdT_iff.1 ht).2
   · exact ht
  obtain ⟨a1, a2, a3⟩ := fmdN_no h2 (c := 0) (by omega) (by decide)
  obtain ⟨b1, b2, b3⟩ := fmdN_no h3 (c := 0) (by omega) (by decide)
  intro x hx
  simp only [namesT, List.mem_cons, List.not_mem_nil, or_false] at hx
  rcases hx with rfl | rfl | rfl | rfl | rfl | rfl <;> assumption
 obtain ⟨h1, h2⟩ := key_order (namesT a) (namesT b) rfl (no a ha) (no b hb)
 exact ⟨h1, h2.trans ⟨names_inj, fun h => by rw [h]⟩⟩
end Go.Proofs.YtahegpfdbgbioaaGreat
namespace Go.Proofs.YtahegpfdbgbioaaGreat
open Go.Shelf Go.RowKit
def lays217_ren : Go.Shelf.Ren := ⟨fun | 217 => 188 | 266 => 216 | 106 => 75 | 213 => 118 | 265 => 159 | n => n, fun | 3 => 3 | 5 => 5 | 9 => 9 | n => n, fun | n => n⟩
theorem lays217 : Go.Proofs.Lays.n217 Tryz.prog lays217_ren := {
 mixed := by kernel_rfl
 f217 := Tryz.func188.trans (congrArg some (by kernel_rfl))
 f266 := Tryz.func216.trans (congrArg some (by kernel_rfl))
 t3 := Tryz.underlying3
 a3 := Tryz.isAgg3
 z3 := Tryz.sizeOf3
 v3 := Tryz.zeroValue3
 t5 := Tryz.underlying5
 a5 := Tryz.isAgg5
 z5 := Tryz.sizeOf5
 v5 := Tryz.zeroValue5
 t9 := Tryz.underlying9
 a9 := Tryz.isAgg9
 z9 := Tryz.sizeOf9
 v9 := Tryz.zeroValue9 }
theorem lays106 : Go.Proofs.Lays.n106 Tryz.prog lays217_ren := {
 mixed := by kernel_rfl
 f106 := Tryz.func75.trans (congrArg some (by kernel_rfl))
 f213 := Tryz.func118.trans (congrArg some (by kernel_rfl))
 f265 := Tryz.func159.trans (congrArg some (by kernel_rfl))
 t3 := Tryz.underlying3
 a3 := Tryz.isAgg3
 z3 := Tryz.sizeOf3
 v3 := Tryz.zeroValue3
 t9 := Tryz.underlying9
 a9 := Tryz.isAgg9
 z9 := Tryz.sizeOf9
 v9 := Tryz.zeroValue9 }
theorem scmp_any (a b : ByteArray) (w : World) : Calls Tryz.prog 75 #[.string a, .string b] w fun e w' => e = .returned (.int .i64 (cmpB a b)) ∧ w' = w :=
 (Any.strings_Compare lays106 a b w).mono fun e w' ⟨h1, h2⟩ => ⟨by rw [h1, compareB_is], h2⟩
theorem ixb (c : UInt8) : ∀ l : List UInt8, (Lib.indexByte l c = -1 ∧ ∀ j : Nat, l[j]? ≠ some c) ∨ ∃ i : Nat, Lib.indexByte l c = i ∧ l[i]? = some c ∧ ∀ j, j < i → l[j]? ≠ some c
 | [] => .inl ⟨rfl, fun j => by simp⟩
 | b :: l => by
  show (if (b == c) = true then (0 : Int) else if (Lib.indexByte l c == -1) = true then -1 else Lib.indexByte l c + 1) = -1 ∧ _ ∨ ∃ i : Nat, (if (b == c) = true then (0 : Int) else if (Lib.indexByte l c == -1) = true then -1 else Lib.indexByte l c + 1) = i ∧ _
  by_cases hb : b = c
  · subst hb
    exact .inr ⟨0, by simp, by simp, fun j hj => absurd hj (Nat.not_lt_zero _)⟩
  · have hf : (b == c) = false := beq_eq_false_iff_ne.2 hb
    have h0 : ∀ j, (∀ k, k < j → l[k]? ≠ some c) → ∀ k, k < j + 1 → (b :: l)[k]? ≠ some c := fun j h k hk => by
     cases k with
     | zero => simpa using hb
     | succ k => rw [List.getElem?_cons_succ]; exact h k (by omega)
    rw [hf]
    rcases ixb c l with ⟨h1, h2⟩ | ⟨i, h1, h2, h3⟩
    · rw [h1]
      refine .inl ⟨by simp, fun j => h0 j (fun k _ => h2 k) j (Nat.lt_succ_self _)⟩
    · rw [h1]
      refine .inr ⟨i + 1, ?_, by rw [List.getElem?_cons_succ]; exact h2, h0 i h3⟩
      rw [show ((i : Int) == -1) = false from beq_eq_false_iff_ne.2 (by omega)]
      simp
theorem bt_is {s : ByteArray} {c : UInt8} {k : Nat} (h : k < s.size) : s.data.toList[k]? = some c ↔ bt s k = c.toNat := by
 rw [bt_list s k h]
 have := bt_lt s k
 constructor
 · intro e
   have := congrArg UInt8.toNat (Option.some.inj e)
   simp at this
   omega
 · intro e
   rw [e]
   simp
theorem ix_fst (s : ByteArray) (c : UInt8) : Lib.indexByte s.data.toList c = if fstC s c.toNat < s.size then (fstC s c.toNat : Int) else -1 := by
 rcases ixb c s.data.toList with ⟨h1, h2⟩ | ⟨i, h1, h2, h3⟩
 · have : fstC s c.toNat = s.size := fstC_miss fun k hk he => h2 k ((bt_is hk).2 he)
   rw [h1, this, if_neg (Nat.lt_irrefl _)]
 · have hi : i < s.size := by
    have := (List.getElem?_eq_some_iff.1 h2).1
    simpa using this
   have : fstC s c.toNat = i := fstC_eq (.inl ((bt_is hi).1 h2)) (Nat.le_of_lt hi) fun j hj he => h3 j hj ((bt_is (Nat.lt_trans hj hi)).2 he)
   rw [h1, this, if_pos hi]
theorem idx1_any (s : ByteArray) (c : UInt8) (w : World) : Calls Tryz.prog 155 #[.string s, .string ⟨#[c]⟩] w fun e w' => e = .returned (.int .i64 (if fstC s c.toNat < s.size then (fstC s c.toNat : Int) else -1)) ∧ w' = w := by
 have k := fun W => Any.stringslite_IndexByte lays217 s (c.toNat : Int) W
 rw [show (c.toNat : Int).toNat.toUInt8 = c from by simp, ix_fst] at k
 by_cases he : (⟨#[c]⟩ : ByteArray) = s
 · have d : ([c] == s.toList) = true := by have h := toList_eq_true he; rwa [ByteArray.toList_eq ⟨#[c]⟩] at h
   have hf : fstC s c.toNat = 0 := fstC_eq (.inl (by rw [← he]; rfl)) (Nat.zero_le _) fun j hj => absurd hj (Nat.not_lt_zero _)
   have hz : 0 < s.size := by rw [← he]; exact Nat.one_pos
   rw [hf, if_pos hz]
   clear he k
   go_enter Tryz.func155, Tryz.ntmps155
   go_wp2_with fail
   go_ret
   exact ⟨rfl, rfl⟩
 · have d : ([c] == s.toList) = false := by have h := toList_ne he; rwa [ByteArray.toList_eq ⟨#[c]⟩] at h
   clear he
   generalize (if fstC s c.toNat < s.size then (fstC s c.toNat : Int) else -1) = z at k ⊢
   go_enter Tryz.func155, Tryz.ntmps155
   go_wp2_with (go_at_call 188; refine (k _).mono ?_; rintro e w' ⟨rfl, rfl⟩)
   go_ret
   exact ⟨rfl, rfl⟩
theorem slcut_any (s : ByteArray) (c : UInt8) (w : World) (hs : s.size ≤ maxLen) : Calls Tryz.prog 112 #[.string s, .string ⟨#[c]⟩] w fun e w' => e = .returned (.tuple #[.string (cutC s c.toNat).1, .string (cutC s c.toNat).2, .bool (decide (fstC s c.toNat < s.size))]) ∧ Below w.heap.size w w' := by
 have k := fun W => idx1_any s c W
 have hms : (s.size : Int) ≤ 9223372036854775807 := by simp only [maxLen] at hs; omega
 by_cases h : fstC s c.toNat < s.size
 · rw [if_pos h] at k
   rw [decide_eq_true h]
   unfold cutC
   generalize fstC s c.toNat = i at *
   have c1 : (0 : Int) ≤ (i : Int) := by omega
   have c2 : (i : Int) ≤ (s.size : Int) := by omega
   have c3 : (0 : Int) ≤ (i : Int) + 1 := by omega
   have c4 : (i : Int) + 1 ≤ (s.size : Int) := by omega
   have c5 : IntKind.i64.wrap ((i : Int) + 1) = (i : Int) + 1 := IntWalk.i64_in _ (by omega)
   go_enter Tryz.func112, Tryz.ntmps112
   go_wp2_with (go_at_call 155; refine (k _).mono ?_; rintro e w' ⟨rfl, rfl⟩)
   go_quiet (fail)
   go_wp2_with fail
   go_returns
   exact ⟨rfl, rfl, rfl, rfl, Nat.le_refl _, fun _ _ => rfl⟩
 · rw [if_neg h] at k
   rw [cutC_end h, decide_eq_false h]
   go_enter Tryz.func112, Tryz.ntmps112
   go_wp2_with (go_at_call 155; refine (k _).mono ?_; rintro e w' ⟨rfl, rfl⟩)
   go_returns
   exact ⟨rfl, Below.refl _ _⟩
theorem cut_any12 (s : ByteArray) (c : UInt8) (w : World) (hs : s.size ≤ maxLen) : Calls Tryz.prog 67 #[.string s, .string ⟨#[c]⟩] w fun e w' => e = .returned (.tuple #[.string (cutC s c.toNat).1, .string (cutC s c.toNat).2, .bool (decide (fstC s c.toNat < s.size))]) ∧ Below w.heap.size w w' := by
 have k := fun W => slcut_any s c W hs
 generalize (cutC s c.toNat).1 = a at *
 generalize (cutC s c.toNat).2 = b at *
 generalize decide (fstC s c.toNat < s.size) = t at *
 go_enter Tryz.func67, Tryz.ntmps67
 go_wp2_with (go_at_call 112; refine (k _).mono ?_; rintro e w' ⟨rfl, hb⟩)
 go_returns
 exact ⟨rfl, hb⟩
theorem cut35 (s : ByteArray) (w : World) (hs : s.size ≤ maxLen) : Calls Tryz.prog 67 #[.string s, .string ⟨#[35]⟩] w fun e w' => e = .returned (.tuple #[.string (cutC s 35).1, .string (cutC s 35).2, .bool (decide (fstC s 35 < s.size))]) ∧ Below w.heap.size w w' := cut_any12 s 35 w hs
theorem cut58 (s : ByteArray) (w : World) (hs : s.size ≤ maxLen) : Calls Tryz.prog 67 #[.string s, .string ⟨#[58]⟩] w fun e w' => e = .returned (.tuple #[.string (cutC s 58).1, .string (cutC s 58).2, .bool (decide (fstC s 58 < s.size))]) ∧ Below w.heap.size w w' := cut_any12 s 58 w hs
theorem cut64 (s : ByteArray) (w : World) (hs : s.size ≤ maxLen) : Calls Tryz.prog 67 #[.string s, .string ⟨#[64]⟩] w fun e w' => e = .returned (.tuple #[.string (cutC s 64).1, .string (cutC s 64).2, .bool (decide (fstC s 64 < s.size))]) ∧ Below w.heap.size w w' := cut_any12 s 64 w hs
theorem cut00 (s : ByteArray) (w : World) (hs : s.size ≤ maxLen) : Calls Tryz.prog 67 #[.string s, .string ⟨#[0]⟩] w fun e w' => e = .returned (.tuple #[.string (cutC s 0).1, .string (cutC s 0).2, .bool (decide (fstC s 0 < s.size))]) ∧ Below w.heap.size w w' := cut_any12 s 0 w hs
end Go.Proofs.YtahegpfdbgbioaaGreat
namespace Go.Proofs.YtahegpfdbgbioaaGreat
open Go.RowKit
theorem gret_bool {a b : Bool} (h : a = b) : Ending.returned (.bool a) = .returned (.bool b) := by rw [h]
def preB (s t : ByteArray) : Bool := decide (t.size ≤ s.size ∧ s.extract 0 t.size = t)
def badB (s : ByteArray) (i : Nat) : Bool := decide (i + 3 ≤ s.size ∧ bt s i = 239 ∧ bt s (i + 1) = 191 ∧ bt s (i + 2) = 189)
theorem pre_any (s t : ByteArray) (w : World) :
 Calls Tryz.prog 218 #[.string s, .string t] w fun e w' => e = .returned (.bool (preB s t)) ∧ w = w' := by
 by_cases h : t.size ≤ s.size
 · go_enter Tryz.func218, Tryz.ntmps218
   go_wp2
   go_ret
   exact ⟨gret_bool (by unfold preB; rw [toList_inj, Bool.eq_iff_iff]; simp [h]), rfl⟩
 · go_enter Tryz.func218, Tryz.ntmps218
   go_wp2
   go_ret
   exact ⟨gret_bool (by unfold preB; simp [h]), rfl⟩
theorem hp_any (s : ByteArray) (i : Nat) (w : World) (h : i < s.size) :
 Calls Tryz.prog 192 #[.string (s.extract i s.size), .string ⟨#[239, 191, 189]⟩] w fun e w' => e = .returned (.bool (badB s i)) ∧ w = w' := by
 go_enter Tryz.func192, Tryz.ntmps192
 go_wp2_with ((refine (pre_any _ sBad _).mono ?_); rintro e w' ⟨rfl, rfl⟩)
 go_ret
 exact ⟨gret_bool (pre_bad h), rfl⟩
theorem inname_any (z : Int) (r : Nat) (w : World) (hz : z = r) :
 Calls Tryz.prog 157 #[.int .i32 z] w fun e w' => e = .returned (.bool (inNameB r)) ∧ w = w' := by
 subst hz
 go_enter Tryz.func157, Tryz.ntmps157
 go_wp2
 all_goals go_ret
 all_goals (refine ⟨gret_bool ?_, rfl⟩; unfold inNameB; try simp only [beq_iff_eq, beq_eq_false_iff_ne, ne_eq] at *)
 all_goals first
  | (symm; exact decide_eq_true (by omega))
  | (rw [Bool.eq_iff_iff]; simp only [decide_eq_true_eq]; omega)
theorem broken_any (s : ByteArray) (i : Nat) (z r : Int) (w : World) (hz : z = i) (hr : r = (rn s i : Int)) (h : i < s.size) :
 Calls Tryz.prog 156 #[.string s, .int .i64 z, .int .i32 r] w fun e w' => e = .returned (.bool (brk s i)) ∧ w = w' := by
 have E := Lib.hid (brk_eq h)
 by_cases hc : rn s i = 65533
 · have hd : (r == 65533) = true := by simp [hr, hc]
   subst hz
   have HR := Lib.hid hr
   have HC := Lib.hid hc
   clear hr hc
   go_enter Tryz.func156, Tryz.ntmps156
   go_wp2_with ((refine (hp_any s i _ h).mono ?_); rintro e w' ⟨rfl, rfl⟩)
   go_ret
   exact ⟨gret_bool (by rw [E.out, HC.out]; unfold badB; simp), rfl⟩
 · have hd : (r == 65533) = false := by simp [hr]; omega
   subst hz
   have HR := Lib.hid hr
   have HC := Lib.hid hc
   clear hr hc
   go_enter Tryz.func156, Tryz.ntmps156
   go_wp2_with ((refine (hp_any s i _ h).mono ?_); rintro e w' ⟨rfl, rfl⟩)
   go_ret
   exact ⟨gret_bool (by rw [E.out, decide_eq_false HC.out]; rfl), rfl⟩
def itAt (w wr : World) (s : ByteArray) (p : Nat) : Prop := wr.heap[w.heap.size]? = some (.stringIter s p)
theorem it_start (w : World) (s : ByteArray) : itAt w (w.iter s 0) s 0 := World.iter_heap w s 0
theorem it_below (w : World) (s : ByteArray) : Below w.heap.size w (w.iter s 0) := (Below.refl _ w).alloc (Nat.le_refl _) _
theorem rn_dec (s : ByteArray) (p : Nat) : ((Utf8.decode s p).1 : Int) = (rn s p : Int) := rfl
theorem it_pos {w wr : World} {s : ByteArray} {p : Nat} (h : itAt w wr s p) : wr.iterPos w.heap.size = p := by unfold itAt at h; simp only [World.iterPos, h]
theorem count_any (s : ByteArray) (w : World) (hs : s.size ≤ 1000000) :
 Calls Tryz.prog 167 #[.string s] w fun e w' => e = .returned (.int .i64 (cnt s)) ∧ Below w.heap.size w w' := by
 go_enter Tryz.func167, Tryz.ntmps167
 go_wp2
 go_loopw [3] (fun n wr => ∃ k : Nat, k ≤ cnt s ∧ n = .int .i64 k ∧ itAt w wr s (plc s k) ∧ Below w.heap.size w wr) (fun _ wr => s.size - wr.iterPos w.heap.size)
 case atStart => exact ⟨0, Nat.zero_le _, rfl, it_start w s, it_below w s⟩
 case round =>
  obtain ⟨k, hk, rfl, hit, hbw⟩ := hrel
  have Hit := Lib.hid hit
  have Hbw := Lib.hid hbw
  have hc := cnt_le s
  have hl := plc_le s k
  by_cases h : plc s k < s.size
  · have hk2 := lt_cnt.2 h
    have hw := wd_pos h
    have HS := Lib.hid (plc_succ h)
    have hnx : ∀ ty, (Instr.next (.pointer (some ⟨w.heap.size, 0, none⟩)) true ty).run Tryz.prog wr = _ := fun ty => Lib.run_next_any_at wr w.heap.size s (plc s k) ty hit h
    have Hit2 := Lib.hid (Lib.iterAt_heap wr w.heap.size s (plc s k) (plc s k + (Utf8.decode s (plc s k)).2) hit)
    have Hbw2 := Lib.hid (Lib.below_iterAt hbw (k := w.heap.size) (Nat.le_refl _) s (plc s k + (Utf8.decode s (plc s k)).2))
    clear hit hbw
    go_wp2
    go_roundw
    case rel =>
     refine ⟨k + 1, by omega, by go_num, ?_, Hbw2.out⟩
     rw [HS.out]; exact Hit2.out
    case measure => rw [it_pos Hit.out, it_pos (w := w) Hit2.out]; show s.size - (plc s k + wd s (plc s k)) < _; omega
  · have e := cnt_eq h fun j hj => lt_cnt.1 (by omega)
    have E := Lib.hid e
    have hnx : ∀ ty, (Instr.next (.pointer (some ⟨w.heap.size, 0, none⟩)) true ty).run Tryz.prog wr = _ := fun ty => Lib.run_next_end_at wr w.heap.size s (plc s k) ty hit h
    clear e hit hbw
    go_wp2
    go_ret
    exact ⟨by rw [E.out]; rfl, Hbw.out⟩
theorem valid_any (s : ByteArray) (w : World) (_ : s.size ≤ 1000000) :
 Calls Tryz.prog 161 #[.string s] w fun e w' => e = .returned (.bool (validS s)) ∧ Below w.heap.size w w' := by
 go_enter Tryz.func161, Tryz.ntmps161
 go_wp2
 go_loopw [] (fun wr => ∃ k : Nat, k ≤ cnt s ∧ itAt w wr s (plc s k) ∧ Below w.heap.size w wr ∧ ∀ j, j < k → brk s (plc s j) = false) (fun wr => s.size - wr.iterPos w.heap.size)
 case atStart => exact ⟨0, Nat.zero_le _, it_start w s, it_below w s, fun j hj => by omega⟩
 case round =>
  obtain ⟨k, hk, hit, hbw, hall⟩ := hrel
  have Hall := Lib.hid hall
  clear hall
  have Hit := Lib.hid hit
  have Hbw := Lib.hid hbw
  have hc := cnt_le s
  have hl := plc_le s k
  by_cases h : plc s k < s.size
  · have hk2 := lt_cnt.2 h
    have hw := wd_pos h
    have HS := Lib.hid (plc_succ h)
    have hnx : ∀ ty, (Instr.next (.pointer (some ⟨w.heap.size, 0, none⟩)) true ty).run Tryz.prog wr = _ := fun ty => Lib.run_next_any_at wr w.heap.size s (plc s k) ty hit h
    have Hit2 := Lib.hid (Lib.iterAt_heap wr w.heap.size s (plc s k) (plc s k + (Utf8.decode s (plc s k)).2) hit)
    have Hbw2 := Lib.hid (Lib.below_iterAt hbw (k := w.heap.size) (Nat.le_refl _) s (plc s k + (Utf8.decode s (plc s k)).2))
    clear hit hbw
    by_cases hb : brk s (plc s k) = true
    · go_wp2_with ((with_reducible refine (broken_any s (plc s k) _ _ _ rfl (rn_dec s (plc s k)) h).mono ?_); rintro e w' ⟨rfl, rfl⟩)
      go_ret
      refine ⟨gret_bool ?_, Hbw2.out⟩
      symm
      rw [Bool.eq_false_iff]
      intro hv
      have := validS_iff.1 hv k hk2
      rw [hb] at this
      cases this
    · rw [Bool.not_eq_true] at hb
      go_wp2_with ((with_reducible refine (broken_any s (plc s k) _ _ _ rfl (rn_dec s (plc s k)) h).mono ?_); rintro e w' ⟨rfl, rfl⟩)
      go_roundw
      case rel =>
       refine ⟨k + 1, by omega, ?_, Hbw2.out, fun j hj => ?_⟩
       · rw [HS.out]; exact Hit2.out
       · by_cases e : j = k
         · subst e; exact hb
         · exact Hall.out j (by omega)
      case measure => rw [it_pos Hit.out, it_pos (w := w) Hit2.out]; show s.size - (plc s k + wd s (plc s k)) < _; omega
  · have e := cnt_eq h fun j hj => lt_cnt.1 (by omega)
    have E := Lib.hid e
    have hnx : ∀ ty, (Instr.next (.pointer (some ⟨w.heap.size, 0, none⟩)) true ty).run Tryz.prog wr = _ := fun ty => Lib.run_next_end_at wr w.heap.size s (plc s k) ty hit h
    clear e hit hbw
    go_wp2
    go_ret
    exact ⟨gret_bool (by symm; rw [validS_iff, E.out]; exact Hall.out), Hbw.out⟩
theorem name_any (s : ByteArray) (w : World) (_ : s.size ≤ 1000000) :
 Calls Tryz.prog 113 #[.string s] w fun e w' => e = .returned (.bool (nameS s)) ∧ Below w.heap.size w w' := by
 go_enter Tryz.func113, Tryz.ntmps113
 go_wp2
 go_loopw [3] (fun n wr => ∃ k : Nat, k ≤ cnt s ∧ n = .int .i64 k ∧ k ≤ 24 ∧ itAt w wr s (plc s k) ∧ Below w.heap.size w wr ∧ ∀ j, j < k → mayB s (plc s j) = true) (fun _ wr => s.size - wr.iterPos w.heap.size)
 case atStart => exact ⟨0, Nat.zero_le _, rfl, Nat.zero_le _, it_start w s, it_below w s, fun j hj => by omega⟩
 case round =>
  obtain ⟨k, hk, rfl, h24, hit, hbw, hall⟩ := hrel
  have Hall := Lib.hid hall
  clear hall
  have Hit := Lib.hid hit
  have Hbw := Lib.hid hbw
  have hc := cnt_le s
  have hl := plc_le s k
  by_cases h : plc s k < s.size
  · have hk2 := lt_cnt.2 h
    have hw := wd_pos h
    have HS := Lib.hid (plc_succ h)
    have hnx : ∀ ty, (Instr.next (.pointer (some ⟨w.heap.size, 0, none⟩)) true ty).run Tryz.prog wr = _ := fun ty => Lib.run_next_any_at wr w.heap.size s (plc s k) ty hit h
    have Hit2 := Lib.hid (Lib.iterAt_heap wr w.heap.size s (plc s k) (plc s k + (Utf8.decode s (plc s k)).2) hit)
    have Hbw2 := Lib.hid (Lib.below_iterAt hbw (k := w.heap.size) (Nat.le_refl _) s (plc s k + (Utf8.decode s (plc s k)).2))
    clear hit hbw
    by_cases h25 : 24 < k + 1
    · have hd : (24 : Int) < (k : Int) + 1 := by omega
      go_wp2_with fail
      go_ret
      refine ⟨gret_bool ?_, Hbw2.out⟩
      symm
      rw [Bool.eq_false_iff]
      intro hv
      have := (nameS_iff.1 hv).2.1
      omega
    · have hd : ¬ (24 : Int) < (k : Int) + 1 := by omega
      have hmB : mayB s (plc s k) = (!brk s (plc s k) && inNameB (rn s (plc s k))) := rfl
      have HM := Lib.hid hmB
      clear hmB
      by_cases hb : brk s (plc s k) = true
      · go_wp2_with ((with_reducible refine (broken_any s (plc s k) _ _ _ rfl (rn_dec s (plc s k)) h).mono ?_); rintro e w' ⟨rfl, rfl⟩)
        go_ret
        refine ⟨gret_bool ?_, Hbw2.out⟩
        symm
        rw [Bool.eq_false_iff]
        intro hv
        have := (nameS_iff.1 hv).2.2 k hk2
        rw [HM.out, hb] at this
        cases this
      · rw [Bool.not_eq_true] at hb
        by_cases hm : inNameB (rn s (plc s k)) = true
        · go_wp2_with (first
           | ((with_reducible refine (broken_any s (plc s k) _ _ _ rfl (rn_dec s (plc s k)) h).mono ?_); rintro e w' ⟨rfl, rfl⟩)
           | ((with_reducible refine (inname_any _ (rn s (plc s k)) _ (rn_dec s (plc s k))).mono ?_); rintro e w' ⟨rfl, rfl⟩))
          go_roundw
          case rel =>
           refine ⟨k + 1, by omega, by go_num, by omega, ?_, Hbw2.out, fun j hj => ?_⟩
           · rw [HS.out]; exact Hit2.out
           · by_cases e : j = k
             · subst e; rw [HM.out, hb, hm]; rfl
             · exact Hall.out j (by omega)
          case measure => rw [it_pos Hit.out, it_pos (w := w) Hit2.out]; show s.size - (plc s k + wd s (plc s k)) < _; omega
        · rw [Bool.not_eq_true] at hm
          go_wp2_with (first
           | ((with_reducible refine (broken_any s (plc s k) _ _ _ rfl (rn_dec s (plc s k)) h).mono ?_); rintro e w' ⟨rfl, rfl⟩)
           | ((with_reducible refine (inname_any _ (rn s (plc s k)) _ (rn_dec s (plc s k))).mono ?_); rintro e w' ⟨rfl, rfl⟩))
          go_ret
          refine ⟨gret_bool ?_, Hbw2.out⟩
          symm
          rw [Bool.eq_false_iff]
          intro hv
          have := (nameS_iff.1 hv).2.2 k hk2
          rw [HM.out, hb, hm] at this
          cases this
  · have e := cnt_eq h fun j hj => lt_cnt.1 (by omega)
    have E := Lib.hid e
    have hnx : ∀ ty, (Instr.next (.pointer (some ⟨w.heap.size, 0, none⟩)) true ty).run Tryz.prog wr = _ := fun ty => Lib.run_next_end_at wr w.heap.size s (plc s k) ty hit h
    clear e hit hbw
    go_wp2
    go_ret
    refine ⟨gret_bool ?_, Hbw.out⟩
    rw [Bool.eq_iff_iff, nameS_iff, E.out]
    simp only [decide_eq_true_eq]
    exact ⟨fun h0 => ⟨by omega, h24, Hall.out⟩, fun h0 => by omega⟩
theorem cutA_end {s : ByteArray} {n : Nat} (h : cnt s ≤ n) : cutA s n = s := by unfold cutA; rw [plc_end h]; exact ext_all s
theorem cutB_end {s : ByteArray} {n : Nat} (h : cnt s ≤ n) : cutB s n = ⟨#[]⟩ := by
 unfold cutB; rw [plc_end h]
 exact bt_ext (by rw [size_ext]; show _ = 0; omega) fun k hk => by rw [size_ext] at hk; omega
theorem cut_any (s : ByteArray) (n : Int) (w : World) (_ : s.size ≤ 1000000) (hn : -9223372036854775808 ≤ n) (hn2 : n ≤ 9223372036854775807) :
 Calls Tryz.prog 160 #[.string s, .int .i64 n] w fun e w' => e = .returned (.tuple #[.string (cutA s n.toNat), .string (cutB s n.toNat)]) ∧ Below w.heap.size w w' := by
 go_enter Tryz.func160, Tryz.ntmps160
 go_wp2
 go_loopw [1] (fun m wr => ∃ k : Nat, k ≤ cnt s ∧ k ≤ n.toNat ∧ m = .int .i64 (n - k) ∧ itAt w wr s (plc s k) ∧ Below w.heap.size w wr) (fun _ wr => s.size - wr.iterPos w.heap.size)
 case atStart => exact ⟨0, Nat.zero_le _, Nat.zero_le _, by simp, it_start w s, it_below w s⟩
 case round =>
  obtain ⟨k, hk, hkn, rfl, hit, hbw⟩ := hrel
  have Hit := Lib.hid hit
  have Hbw := Lib.hid hbw
  have hc := cnt_le s
  have hl := plc_le s k
  by_cases h : plc s k < s.size
  · have hk2 := lt_cnt.2 h
    have hw := wd_pos h
    have HS := Lib.hid (plc_succ h)
    have hnx : ∀ ty, (Instr.next (.pointer (some ⟨w.heap.size, 0, none⟩)) true ty).run Tryz.prog wr = _ := fun ty => Lib.run_next_any_at wr w.heap.size s (plc s k) ty hit h
    have Hit2 := Lib.hid (Lib.iterAt_heap wr w.heap.size s (plc s k) (plc s k + (Utf8.decode s (plc s k)).2) hit)
    have Hbw2 := Lib.hid (Lib.below_iterAt hbw (k := w.heap.size) (Nat.le_refl _) s (plc s k + (Utf8.decode s (plc s k)).2))
    clear hit hbw
    by_cases h0 : n - k ≤ 0
    · have e : n.toNat = k := by omega
      have E := Lib.hid e
      clear e
      go_wp2
      go_quiet (fail)
      go_wp2
      go_ret2
      exact ⟨by rw [E.out]; rfl, Hbw2.out.trans ⟨rfl, rfl, rfl, Nat.le_refl _, fun _ _ => rfl⟩⟩
    · go_wp2
      go_roundw
      case rel =>
       refine ⟨k + 1, by omega, by omega, by go_num, ?_, Hbw2.out⟩
       rw [HS.out]; exact Hit2.out
      case measure => rw [it_pos Hit.out, it_pos (w := w) Hit2.out]; show s.size - (plc s k + wd s (plc s k)) < _; omega
  · have e := cnt_eq h fun j hj => lt_cnt.1 (by omega)
    have E := Lib.hid e
    have hnx : ∀ ty, (Instr.next (.pointer (some ⟨w.heap.size, 0, none⟩)) true ty).run Tryz.prog wr = _ := fun ty => Lib.run_next_end_at wr w.heap.size s (plc s k) ty hit h
    clear e hit hbw
    have ea := cutA_end (s := s) (n := n.toNat) (by have := E.out; omega)
    have eb := cutB_end (s := s) (n := n.toNat) (by have := E.out; omega)
    have EA := Lib.hid ea
    have EB := Lib.hid eb
    clear ea eb
    go_wp2
    go_ret2
    exact ⟨by rw [EA.out, EB.out]; rfl, Hbw.out⟩
end Go.Proofs.YtahegpfdbgbioaaGreat
namespace Go.Proofs.YtahegpfdbgbioaaGreat
open Go.ChangeShapes Go.WideShapes Go.ChangeAt Go.RowKit
theorem own_ : ownKnob Tryz.prog.godebug = none := by kernel_rfl
theorem laidOut_ : laidOutB Tryz.prog = true := by kernel_rfl
section
variable {H : Type} {enc : TypeId × Value → H} {P : Program} {W : World} {base : Nat} {spare : Nat → Bool} {held : Bool}
end
theorem wf_i64 {z : Int} (h : (Lit.int .i64 z).wf = true) : -9223372036854775808 ≤ z ∧ z ≤ 9223372036854775807 := by
 simpa [Lit.wf, IntKind.min, IntKind.max, IntKind.signed, IntKind.bits] using h
end Go.Proofs.YtahegpfdbgbioaaGreat
