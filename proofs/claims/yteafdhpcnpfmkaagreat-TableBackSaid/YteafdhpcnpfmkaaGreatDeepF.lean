/- Parentheses within each other: what is told of so many. Conditions: fewer than fourteen. -/
import Derived.Test.YteafdhpcnpfmkaaGreatParseP
import Derived.Test.YteafdhpcnpfmkaaGreatScanP
namespace Go.Proofs.YteafdhpcnpfmkaaGreat

/-- A text's tokens, whatever stands behind it. -/
def Lx (x : ByteArray) (ts : Nat → List Tk) : Prop := validS x = true ∧ ∀ r off, scan (x ++ r) off = (ts off ++ (scan r (off + x.size)).1, (scan r (off + x.size)).2)
theorem Lx.blank {c : Nat} (h : blankB c = true) : Lx (sOne c) fun _ => [] :=
  ⟨sOne_valid (by have := blankB_iff.1 h; omega), fun r off => by rw [scan_blank1 h, sOne_size]; rfl⟩
theorem Lx.sign {c : Nat} (h : signB c = true) : Lx (sOne c) fun off => [(2, sOne c, off)] :=
  ⟨sOne_valid (by have := signB_iff.1 h; omega), fun r off => by rw [scan_sign1 h, sOne_size]; rfl⟩
theorem Lx.app {x y : ByteArray} {ts us : Nat → List Tk} (hx : Lx x ts) (hy : Lx y us) : Lx (x ++ y) fun off => ts off ++ us (off + x.size) :=
  ⟨by rw [sep_validS (sep_valid hx.1), hx.1, hy.1]; rfl, fun r off => by rw [app_assoc, hx.2, hy.2, size_app, Nat.add_assoc, List.append_assoc]⟩
theorem low_no {c : Nat} (h : blankB c = true ∨ signB c = true) (r : ByteArray) : 0 < (sOne c ++ r).size → mayB (sOne c ++ r) 0 = false := fun hz => by
  have hc : c < 128 ∧ byteB c = false := by
    rcases h with h | h
    · have := blankB_iff.1 h
      exact ⟨by omega, by rw [Bool.eq_false_iff]; intro e; have := byteB_iff.1 e; omega⟩
    · have := signB_iff.1 h
      exact ⟨by omega, by rw [Bool.eq_false_iff]; intro e; have := byteB_iff.1 e; omega⟩
  have h0 := ascii_first (n := c) (r := r) (by omega)
  rw [may_low hz (by omega), h0]; exact hc.2
/-- A word, and what ends it. -/
theorem Lx.word {x : ByteArray} {c : Nat} {us : Nat → List Tk} (hx : nameS x = true) (hc : blankB c = true ∨ signB c = true) (hu : Lx (sOne c) us) : Lx (x ++ sOne c) fun off => (1, x, off) :: us (off + x.size) :=
  ⟨by rw [sep_validS (sep_valid (name_valid hx)), name_valid hx, hu.1]; rfl, fun r off => by rw [app_assoc, scan_word1 hx (low_no hc r), hu.2, size_app, Nat.add_assoc]; rfl⟩
/-- A text so many times, as the law puts it. -/
def repS (x : ByteArray) : Nat → ByteArray
  | 0 => ⟨#[]⟩
  | k + 1 => repS x k ++ x
def repT (n : Nat) (ts : Nat → List Tk) : Nat → Nat → List Tk
  | 0, _ => []
  | k + 1, off => repT n ts k off ++ ts (off + k * n)
theorem repS_size (x : ByteArray) : ∀ k, (repS x k).size = k * x.size
  | 0 => by rw [Nat.zero_mul]; rfl
  | k + 1 => by show (repS x k ++ x).size = _; rw [size_app, repS_size x k, Nat.succ_mul]
theorem Lx.rep {x : ByteArray} {ts : Nat → List Tk} (h : Lx x ts) : ∀ k, Lx (repS x k) (repT x.size ts k)
  | 0 => ⟨show validS ⟨#[]⟩ = true by decide +kernel, fun r off => by show scan (⟨#[]⟩ ++ r) off = ([] ++ (scan r (off + 0)).1, (scan r (off + 0)).2); rw [nil_app']; rfl⟩
  | k + 1 => by
    have := (Lx.rep h k).app h
    rw [repS_size] at this
    exact this
def sT (c : Nat) : Nat → List Tk := fun off => [(2, sOne c, off)]

def dHead : ByteArray := ⟨#[116, 121, 112, 101, 32, 116, 32, 123, 32, 114, 101, 108, 32, 114, 32, 40, 114, 44, 32, 114, 44, 32, 114, 41, 58, 32, 116, 32, 105, 115, 32]⟩
def wr_ : ByteArray := ⟨#[114]⟩
def wt_ : ByteArray := ⟨#[116]⟩
def wa_ : ByteArray := ⟨#[97]⟩
theorem dHead_lx : ∃ ts : Nat → List Tk, Lx dHead ts ∧ ts 0 = [(1, sType, 0), (1, wt_, 5), (2, sOne 123, 7), (1, sRel, 9), (1, wr_, 13), (2, sOne 40, 15), (1, wr_, 16), (2, sOne 44, 17), (1, wr_, 19), (2, sOne 44, 20), (1, wr_, 22), (2, sOne 41, 23), (2, sOne 58, 24), (1, wt_, 26), (1, sIs, 28)] := by
  have hb : Lx (sOne 32) fun _ => [] := Lx.blank rfl
  have w1 := Lx.word (x := sType) (c := 32) (by decide +kernel) (.inl rfl) hb
  have w2 := Lx.word (x := wt_) (c := 32) (by decide +kernel) (.inl rfl) hb
  have w3 := Lx.sign (c := 123) rfl
  have w4 := Lx.word (x := sRel) (c := 32) (by decide +kernel) (.inl rfl) hb
  have w5 := Lx.word (x := wr_) (c := 32) (by decide +kernel) (.inl rfl) hb
  have w6 := Lx.sign (c := 40) rfl
  have w7 := Lx.word (x := wr_) (c := 44) (by decide +kernel) (.inr rfl) (Lx.sign (c := 44) rfl)
  have w8 := Lx.word (x := wr_) (c := 41) (by decide +kernel) (.inr rfl) (Lx.sign (c := 41) rfl)
  have w9 := Lx.sign (c := 58) rfl
  have w10 := Lx.word (x := sIs) (c := 32) (by decide +kernel) (.inl rfl) hb
  have h := ((((((((((((((w1.app w2).app w3).app hb).app w4).app w5).app w6).app w7).app hb).app w7).app hb).app w8).app w9).app hb).app w2).app w10
  exact ⟨_, h, rfl⟩

theorem repS_succ (x : ByteArray) : ∀ k, repS x (k + 1) = x ++ repS x k
  | 0 => by show (⟨#[]⟩ : ByteArray) ++ x = x ++ ⟨#[]⟩; rw [nil_app', app_nil]
  | k + 1 => by
    show repS x (k + 1) ++ x = x ++ (repS x k ++ x)
    rw [repS_succ x k, app_assoc]
theorem rep_low {c : Nat} (hc : signB c = true) {e : Nat} (he : signB e = true) (k : Nat) (r : ByteArray) : 0 < (repS (sOne c) k ++ (sOne e ++ r)).size → mayB (repS (sOne c) k ++ (sOne e ++ r)) 0 = false := by
  cases k with
  | zero =>
    show 0 < (⟨#[]⟩ ++ (sOne e ++ r)).size → mayB (⟨#[]⟩ ++ (sOne e ++ r)) 0 = false
    rw [nil_app']
    exact low_no (.inr he) r
  | succ k =>
    rw [repS_succ, app_assoc]
    exact low_no (.inr hc) _
def dOpen (right : Bool) : ByteArray := if right then ⟨#[40, 97, 124]⟩ else ⟨#[40]⟩
def openT (right : Bool) : Nat → List Tk := fun off => if right then [(2, sOne 40, off), (1, wa_, off + 1), (2, sOne 124, off + 2)] else [(2, sOne 40, off)]
theorem open_lx (right : Bool) : Lx (dOpen right) (openT right) := by
  cases right with
  | false => exact Lx.sign (c := 40) rfl
  | true => exact (Lx.sign (c := 40) rfl).app (Lx.word (x := wa_) (c := 124) (by decide +kernel) (.inr rfl) (Lx.sign (c := 124) rfl))
def deepS (right : Bool) (k : Nat) : ByteArray := dHead ++ repS (dOpen right) k ++ ⟨#[97]⟩ ++ repS ⟨#[41]⟩ k ++ ⟨#[59, 32, 125]⟩
def headT : List Tk := [(1, sType, 0), (1, wt_, 5), (2, sOne 123, 7), (1, sRel, 9), (1, wr_, 13), (2, sOne 40, 15), (1, wr_, 16), (2, sOne 44, 17), (1, wr_, 19), (2, sOne 44, 20), (1, wr_, 22), (2, sOne 41, 23), (2, sOne 58, 24), (1, wt_, 26), (1, sIs, 28)]
def deepT (right : Bool) (k : Nat) : List Tk :=
  headT ++ (repT (dOpen right).size (openT right) k 31 ++ ((1, wa_, 31 + k * (dOpen right).size) :: (repT 1 (sT 41) k (31 + k * (dOpen right).size + 1) ++
    [(2, sOne 59, 31 + k * (dOpen right).size + 1 + k), (2, sOne 125, 31 + k * (dOpen right).size + 1 + k + 2), (3, ⟨#[]⟩, 31 + k * (dOpen right).size + 1 + k + 3)])))
theorem deep_scan (right : Bool) (k : Nat) : validS (deepS right k) = true ∧ scan (deepS right k) 0 = (deepT right k, 0, 0) := by
  obtain ⟨ts, hh, h0⟩ := dHead_lx
  have ho := (open_lx right).rep k
  have hc := (Lx.sign (c := 41) rfl).rep k
  have hm := Lx.sign (c := 59) rfl
  have hb := Lx.blank (c := 32) rfl
  have he := Lx.sign (c := 125) rfl
  have ha : nameS wa_ = true := by decide +kernel
  have e : deepS right k = dHead ++ (repS (dOpen right) k ++ (wa_ ++ (repS (sOne 41) k ++ (sOne 59 ++ (sOne 32 ++ (sOne 125 ++ ⟨#[]⟩)))))) := by
    unfold deepS
    rw [app_assoc, app_assoc, app_assoc]
    rfl
  have s1 : (sOne 41).size = 1 := rfl
  rw [e]
  constructor
  · rw [sep_validS (sep_valid hh.1), hh.1, sep_validS (sep_valid ho.1), ho.1, sep_validS (sep_valid (name_valid ha)), name_valid ha, sep_validS (sep_valid hc.1), hc.1, sep_validS (sep_valid hm.1), hm.1, sep_validS (sep_valid hb.1), hb.1, sep_validS (sep_valid he.1), he.1]
    decide +kernel
  · rw [hh.2, ho.2, scan_word1 ha (rep_low rfl rfl k _), hc.2, hm.2, hb.2, he.2, scan_nil rfl, h0, repS_size, repS_size, s1]
    unfold deepT
    simp only [show dHead.size = 31 from rfl, show (sOne 59).size = 1 from rfl, show (sOne 32).size = 1 from rfl, show (sOne 125).size = 1 from rfl, show wa_.size = 1 from rfl, Nat.zero_add, Nat.mul_one, List.nil_append]
    rfl
def deepOps (right : Bool) (k : Nat) : List OpP := if right then List.replicate (k + 1) (2, ⟨#[97]⟩, ⟨#[]⟩) ++ List.replicate k (4, ⟨#[]⟩, ⟨#[]⟩) else [(2, ⟨#[97]⟩, ⟨#[]⟩)]
def deepR (right : Bool) (k : Nat) : List TypP × Nat × Nat :=
  if 8 < k then ([], 13, 31 + 8 * (if right then 3 else 1))
  else ([⟨⟨#[116]⟩, [⟨⟨#[114]⟩, ⟨#[114]⟩, ⟨#[114]⟩, ⟨#[114]⟩, [(⟨#[116]⟩, ⟨#[]⟩)], deepOps right k⟩]⟩], 0, 0)
theorem deep_says : ∀ k, k < 14 → outS (schemaF (deepT true k)) = deepR true k ∧ outS (schemaF (deepT false k)) = deepR false k := by decide +kernel
theorem deep_size : ∀ k, k < 14 → (deepS true k).size ≤ 2048 ∧ (deepS false k).size ≤ 2048 := by decide +kernel
theorem parse_deep (right : Bool) {k : Nat} (hk : k < 14) : parseS (deepS right k) = deepR right k := by
  obtain ⟨v, e⟩ := deep_scan right k
  have hz : (deepS right k).size ≤ 2048 := by
    cases right with
    | true => exact (deep_size k hk).1
    | false => exact (deep_size k hk).2
  have hA : allS (deepS right k) = (deepT right k, 0, 0) := by rw [all_ok hz v (by rw [e]), e]
  have eP : parseS (deepS right k) = outS (schemaF (allS (deepS right k)).1) := by unfold parseS; rw [if_pos (by rw [hA])]
  rw [eP, hA]
  cases right with
  | true => exact (deep_says k hk).1
  | false => exact (deep_says k hk).2
end Go.Proofs.YteafdhpcnpfmkaaGreat
