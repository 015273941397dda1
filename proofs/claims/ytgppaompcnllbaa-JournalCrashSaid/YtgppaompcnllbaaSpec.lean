/- Layer 3 as plain functions: a disk's state and what each call makes of it. Conditions: none; nothing of the program is named here. -/
import Derived.Test.YtgppaompcnllbaaBase
namespace Go.Proofs.Ytgppaompcnllbaa
open Go.RowKit

/-- A sector's bytes. -/
abbrev Sec := List UInt8
/-- A disk: its sectors that are kept, the writes that wait, how many calls are left, whether it is dead. -/
structure St where
  kept : List Sec
  waits : List (Nat × Sec)
  left : Int
  dead : Bool

def put1 (l : List Sec) (p : Nat × Sec) : List Sec := l.set p.1 p.2
def puts (l : List Sec) (ps : List (Nat × Sec)) : List Sec := ps.foldl put1 l
theorem puts_nil (l : List Sec) : puts l [] = l := rfl
theorem puts_snoc (l : List Sec) (ps : List (Nat × Sec)) (p : Nat × Sec) : puts l (ps ++ [p]) = (puts l ps).set p.1 p.2 := by simp [puts, put1]
theorem puts_length (l : List Sec) (ps : List (Nat × Sec)) : (puts l ps).length = l.length := by
  induction ps generalizing l with
  | nil => rfl
  | cons p r ih => show (puts (put1 l p) r).length = _; rw [ih]; simp [put1]
theorem puts_sec {l : List Sec} {ps : List (Nat × Sec)} (h : ∀ b ∈ l, b.length = 64) (hp : ∀ p ∈ ps, p.2.length = 64) : ∀ b ∈ puts l ps, b.length = 64 := by
  induction ps generalizing l with
  | nil => exact h
  | cons p r ih =>
    refine ih (l := put1 l p) (fun b hb => ?_) (fun q hq => hp q (List.mem_cons_of_mem _ hq))
    rcases List.mem_or_eq_of_mem_set hb with hb | rfl
    · exact h b hb
    · exact hp p (List.mem_cons_self ..)

def St.now (s : St) : List Sec := puts s.kept s.waits
/-- What is always so. -/
structure St.Ok (s : St) : Prop where
  pos : 0 < s.kept.length
  most : s.kept.length ≤ 65536
  sec : ∀ b ∈ s.kept, b.length = 64
  wait : ∀ p ∈ s.waits, p.1 < s.kept.length ∧ p.2.length = 64
  lo : -9223372036854775808 ≤ s.left
  hi : s.left ≤ 9223372036854775807
  dead : s.dead = true → s.left ≤ 0
theorem St.Ok.nowSec {s : St} (h : s.Ok) : ∀ b ∈ s.now, b.length = 64 := puts_sec h.sec fun p hp => (h.wait p hp).2
theorem St.nowLen (s : St) : s.now.length = s.kept.length := puts_length _ _

def pad (l : List UInt8) : Sec := l ++ List.replicate (64 - l.length) 0
theorem pad_length {l : List UInt8} (h : l.length ≤ 64) : (pad l).length = 64 := by simp [pad]; omega
/-- Is that a sector's place? -/
def St.has (s : St) (i : Int) : Bool := decide (0 ≤ i) && decide (i < s.kept.length)
/-- A Write or a Flush is counted. -/
def St.count (s : St) : St := if 0 < s.left then { s with left := s.left - 1, dead := decide (s.left - 1 = 0) } else s
def St.fresh (n : Nat) : St := { kept := List.replicate n (List.replicate 64 0), waits := [], left := 0, dead := false }
def St.wrote (s : St) (i : Int) (l : List UInt8) : St := { s with waits := s.waits ++ [(i.toNat, pad l)] }
/-- A Write that may be. -/
def St.write (s : St) (i : Int) (l : List UInt8) : St := if s.count.dead then s.count else s.count.wrote i l
def St.flushed (s : St) : St := { s with kept := s.now, waits := [] }
def St.flush (s : St) : St := if s.count.dead then s.count else s.count.flushed
/-- What a counted call tells. -/
def St.err (s : St) : Int := if s.count.dead then 20 else 0
def St.arm (s : St) (n : Int) : St := if s.dead then s else { s with left := n }
/-- Those whose number is told. -/
def pick {α : Type} (f : Nat → Bool) (ws : List α) : List α := (ws.zipIdx.filter fun p => f p.2).map Prod.fst
section
variable {α : Type}
theorem pick_nil (f : Nat → Bool) : pick f ([] : List α) = [] := rfl
theorem pick_snoc (f : Nat → Bool) (ws : List α) (x : α) : pick f (ws ++ [x]) = pick f ws ++ (if f ws.length then [x] else []) := by
  simp only [pick, List.zipIdx_append, List.filter_append, List.map_append, Nat.zero_add]
  congr 1
  simp [List.zipIdx]
  by_cases h : f ws.length = true <;> simp [h]
theorem pick_all (ws : List α) : pick (fun _ => true) ws = ws := by
  have h : ws.zipIdx.filter (fun p => (fun _ => true : Nat → Bool) p.2) = ws.zipIdx := List.filter_eq_self.2 fun _ _ => rfl
  rw [pick, h]; exact List.zipIdx_map_fst 0 ws
theorem pick_mem {f : Nat → Bool} {ws : List α} {p : α} (h : p ∈ pick f ws) : p ∈ ws := by
  simp only [pick, List.mem_map, List.mem_filter] at h
  obtain ⟨⟨q, i⟩, ⟨hq, _⟩, rfl⟩ := h
  exact (List.mem_zipIdx hq).2.2 ▸ List.getElem_mem _
theorem pick_le (f : Nat → Bool) (ws : List α) : (pick f ws).length ≤ ws.length := by
  rw [pick, List.length_map]
  exact Nat.le_trans (List.length_filter_le _ _) (by simp)
theorem pick_map {β : Type} (f : Nat → Bool) (ws : List α) (g : α → β) : (pick f ws).map g = pick f (ws.map g) := by
  simp only [pick, List.zipIdx_map, List.filter_map, List.map_map]
  congr 1
theorem pick_take_succ {f : Nat → Bool} {ws : List α} {k : Nat} {x : α} (h : ws[k]? = some x) : pick f (ws.take (k + 1)) = pick f (ws.take k) ++ (if f k then [x] else []) := by
  have hk := (List.getElem?_eq_some_iff.1 h).1
  rw [List.take_add_one, h, Option.toList_some, pick_snoc, List.length_take, Nat.min_eq_left (Nat.le_of_lt hk)]
end
def St.restart (s : St) (keep : List Bool) : St := { kept := puts s.kept (pick (fun n => keep.getD n false) s.waits), waits := [], left := 0, dead := false }

theorem St.Ok.count {s : St} (h : s.Ok) : s.count.Ok := by
  have h1 := h.lo; have h2 := h.hi
  unfold St.count
  split
  · exact ⟨h.pos, h.most, h.sec, h.wait, by simp only; omega, by simp only; omega, fun e => by simp at e; simp only; omega⟩
  · exact h
theorem St.Ok.fresh {n : Nat} (h : 0 < n) (h' : n ≤ 65536) : (St.fresh n).Ok :=
  ⟨by simpa [St.fresh] using h, by simpa [St.fresh] using h', fun b hb => by simp [St.fresh] at hb; simp [hb.2], fun p hp => by simp [St.fresh] at hp, by simp [St.fresh], by simp [St.fresh], fun e => by simp [St.fresh]⟩
theorem St.Ok.arm {s : St} (h : s.Ok) {n : Int} (h1 : -9223372036854775808 ≤ n) (h2 : n ≤ 9223372036854775807) : (s.arm n).Ok := by
  unfold St.arm
  split
  · exact h
  · rename_i hd
    exact ⟨h.pos, h.most, h.sec, h.wait, h1, h2, fun e => absurd e (by simpa using hd)⟩
theorem St.Ok.wrote {s : St} (h : s.Ok) {i : Int} (h0 : 0 ≤ i) (hi : i < s.kept.length) {l : List UInt8} (hl : l.length ≤ 64) : (s.wrote i l).Ok :=
  ⟨h.pos, h.most, h.sec, fun p hp => by
    rcases List.mem_append.1 hp with hp | hp
    · exact h.wait p hp
    · simp at hp; subst hp; exact ⟨by show i.toNat < s.kept.length; omega, pad_length hl⟩, h.lo, h.hi, h.dead⟩
theorem St.Ok.flushed {s : St} (h : s.Ok) : s.flushed.Ok :=
  ⟨by show 0 < s.now.length; rw [St.nowLen]; exact h.pos, by show s.now.length ≤ _; rw [St.nowLen]; exact h.most, h.nowSec, fun p hp => by simp [St.flushed] at hp, h.lo, h.hi, h.dead⟩
theorem St.Ok.restart {s : St} (h : s.Ok) (keep : List Bool) : (s.restart keep).Ok :=
  ⟨by show 0 < (puts _ _).length; rw [puts_length]; exact h.pos, by show (puts _ _).length ≤ _; rw [puts_length]; exact h.most,
    puts_sec h.sec fun p hp => (h.wait p (pick_mem hp)).2, fun p hp => by simp [St.restart] at hp, by simp [St.restart], by simp [St.restart], fun _ => by simp [St.restart]⟩
theorem St.count_kept (s : St) : s.count.kept = s.kept := by unfold St.count; split <;> rfl
theorem St.count_waits (s : St) : s.count.waits = s.waits := by unfold St.count; split <;> rfl
theorem St.now_wrote (s : St) (i : Int) (l : List UInt8) : (s.wrote i l).now = s.now.set i.toNat (pad l) := puts_snoc _ _ _
theorem St.now_flushed (s : St) : s.flushed.now = s.now := rfl
theorem St.has_iff {s : St} {i : Int} : s.has i = true ↔ 0 ≤ i ∧ i < s.kept.length := by simp [St.has]

/-! cells -/

/-- Sectors, one behind the other, as cells. -/
def scells (l : List Sec) : List Value := bv l.flatten
def wcell (p : Nat × Sec) : List Value := Value.int .i64 p.1 :: bv p.2
def wcells (l : List (Nat × Sec)) : List Value := l.flatMap wcell
theorem scells_length {l : List Sec} (h : ∀ b ∈ l, b.length = 64) : (scells l).length = l.length * 64 := by
  rw [scells, bv_length]
  induction l with
  | nil => rfl
  | cons b r ih =>
    rw [List.flatten_cons, List.length_append, ih (fun c hc => h c (List.mem_cons_of_mem _ hc)), h b (List.mem_cons_self ..), List.length_cons]
    omega
theorem wcells_length {l : List (Nat × Sec)} (h : ∀ p ∈ l, p.2.length = 64) : (wcells l).length = l.length * 65 := by
  induction l with
  | nil => rfl
  | cons b r ih =>
    rw [wcells, List.flatMap_cons, List.length_append, show (List.flatMap wcell r) = wcells r from rfl, ih (fun c hc => h c (List.mem_cons_of_mem _ hc)), wcell, List.length_cons, bv_length, h b (List.mem_cons_self ..), List.length_cons]
    omega
theorem wcells_snoc (l : List (Nat × Sec)) (p : Nat × Sec) : wcells (l ++ [p]) = wcells l ++ wcell p := by simp [wcells]
theorem wcell_length {p : Nat × Sec} (h : p.2.length = 64) : (wcell p).length = 65 := by simp [wcell, bv_length, h]
theorem scells_one (l : List Sec) : ∀ u ∈ scells l, u.oneCell' = true := bv_one _
theorem wcells_one (l : List (Nat × Sec)) : ∀ u ∈ wcells l, u.oneCell' = true := by
  intro u hu
  obtain ⟨p, _, hp⟩ := List.mem_flatMap.1 hu
  rcases List.mem_cons.1 hp with rfl | hp
  · rfl
  · exact bv_one _ _ hp
/-- A sector's cells within all. -/
theorem scells_at {l : List Sec} (h : ∀ b ∈ l, b.length = 64) {k : Nat} {b : Sec} (hk : l[k]? = some b) {j : Nat} (hj : j < 64) : (scells l)[k * 64 + j]? = (bv b)[j]? := by
  induction l generalizing k with
  | nil => simp at hk
  | cons c r ih =>
    have hc := h c (List.mem_cons_self ..)
    have e : scells (c :: r) = bv c ++ scells r := by simp [scells, bv_append]
    rw [e]
    cases k with
    | zero =>
      simp at hk; subst hk
      rw [Nat.zero_mul, Nat.zero_add, List.getElem?_append_left (by rw [bv_length, hc]; exact hj)]
    | succ k =>
      rw [List.getElem?_append_right (by rw [bv_length, hc]; omega), bv_length, hc, show (k + 1) * 64 + j - 64 = k * 64 + j from by omega]
      exact ih (fun d hd => h d (List.mem_cons_of_mem _ hd)) (by simpa using hk)
theorem wcells_at {l : List (Nat × Sec)} (h : ∀ p ∈ l, p.2.length = 64) {k : Nat} {p : Nat × Sec} (hk : l[k]? = some p) {j : Nat} (hj : j < 65) : (wcells l)[k * 65 + j]? = (wcell p)[j]? := by
  induction l generalizing k with
  | nil => simp at hk
  | cons c r ih =>
    have hc := wcell_length (h c (List.mem_cons_self ..))
    have e : wcells (c :: r) = wcell c ++ wcells r := by simp [wcells]
    rw [e]
    cases k with
    | zero =>
      simp at hk; subst hk
      rw [Nat.zero_mul, Nat.zero_add, List.getElem?_append_left (by rw [hc]; exact hj)]
    | succ k =>
      rw [List.getElem?_append_right (by rw [hc]; omega), hc, show (k + 1) * 65 + j - 65 = k * 65 + j from by omega]
      exact ih (fun d hd => h d (List.mem_cons_of_mem _ hd)) (by simpa using hk)
/-- A sector set anew. -/
theorem scells_set {l : List Sec} (h : ∀ b ∈ l, b.length = 64) {k : Nat} (hk : k < l.length) (b : Sec) :
    scells (l.set k b) = (scells l).take (k * 64) ++ bv b ++ (scells l).drop (k * 64 + 64) := by
  induction l generalizing k with
  | nil => simp at hk
  | cons c r ih =>
    have hc := h c (List.mem_cons_self ..)
    have e : ∀ (c : Sec) (r : List Sec), scells (c :: r) = bv c ++ scells r := fun c r => by simp [scells, bv_append]
    cases k with
    | zero =>
      rw [List.set_cons_zero, e, e, Nat.zero_mul, Nat.zero_add]
      rw [List.drop_append_of_le_length (by rw [bv_length, hc]; exact Nat.le_refl _), List.drop_of_length_le (by rw [bv_length, hc]; exact Nat.le_refl _)]
      simp
    | succ k =>
      rw [List.set_cons_succ, e, e, ih (fun d hd => h d (List.mem_cons_of_mem _ hd)) (by simpa using hk)]
      rw [show (k + 1) * 64 = 64 + k * 64 from by omega, List.take_append, List.drop_append, bv_length, hc,
        List.take_of_length_le (l := bv c) (by rw [bv_length, hc]; omega), List.drop_of_length_le (l := bv c) (by rw [bv_length, hc]; omega),
        show 64 + k * 64 - 64 = k * 64 from by omega, show 64 + k * 64 + 64 - 64 = k * 64 + 64 from by omega]
      simp
end Go.Proofs.Ytgppaompcnllbaa
