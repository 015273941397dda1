/- Parts with signs between: what is told of them, from the left on. Conditions: none but that the text is short. -/
import Derived.Test.YtdndncodpepdfaaDeepF
namespace Go.Proofs.Ytdndncodpepdfaa

def wp0 : ByteArray := ⟨#[112, 48]⟩
/-- What stands behind the first part. -/
def leftR : List Nat → ByteArray
  | [] => sOne 59 ++ (sOne 32 ++ (sOne 125 ++ ⟨#[]⟩))
  | c :: t => sOne 32 ++ (sOne c ++ (sOne 32 ++ (sThis ++ leftR t)))
def leftT : List Nat → Nat → List Tk
  | [], off => [(2, sOne 59, off), (2, sOne 125, off + 2), (3, ⟨#[]⟩, off + 3)]
  | c :: t, off => (2, sOne c, off + 1) :: (1, sThis, off + 3) :: leftT t (off + 7)
theorem left_low (l : List Nat) : 0 < (leftR l).size → mayB (leftR l) 0 = false := by
  cases l with
  | nil => exact low_no (.inr rfl) _
  | cons c t => exact low_no (.inl rfl) _
theorem sThis_name : nameS sThis = true := by decide +kernel
theorem left_scan : ∀ (l : List Nat) (off : Nat), (∀ c ∈ l, signB c = true) → validS (leftR l) = true ∧ scan (leftR l) off = (leftT l off, 0, 0)
  | [], off, _ => by
    have hm := Lx.sign (c := 59) rfl
    have hb := Lx.blank (c := 32) rfl
    have he := Lx.sign (c := 125) rfl
    constructor
    · decide +kernel
    · show scan (sOne 59 ++ (sOne 32 ++ (sOne 125 ++ ⟨#[]⟩))) off = _
      rw [hm.2, hb.2, he.2, scan_nil rfl]
      rfl
  | c :: t, off, h => by
    obtain ⟨v, e⟩ := left_scan t (off + 7) fun x hx => h x (List.mem_cons_of_mem _ hx)
    have hb := Lx.blank (c := 32) rfl
    have hs := Lx.sign (h c (List.mem_cons_self ..))
    have hz : sThis.size = 4 := rfl
    constructor
    · show validS (sOne 32 ++ (sOne c ++ (sOne 32 ++ (sThis ++ leftR t)))) = true
      rw [sep_validS (sep_valid hb.1), hb.1, sep_validS (sep_valid hs.1), hs.1, sep_validS (sep_valid hb.1), hb.1, sep_validS (sep_valid (name_valid sThis_name)), name_valid sThis_name, v]
      rfl
    · show scan (sOne 32 ++ (sOne c ++ (sOne 32 ++ (sThis ++ leftR t)))) off = _
      rw [hb.2, hs.2, hb.2, scan_word1 sThis_name (left_low t)]
      simp only [sOne_size, hz, Nat.add_assoc, Nat.reduceAdd]
      rw [e]
      rfl
theorem need_ok {c : ByteArray} {x : Tk} {l : List Tk} (h : isT c (x :: l) = true) : needT c (x :: l) = .ok ((), l) := if_pos h
theorem name_ok {x : Tk} {l : List Tk} (h : x.1 = 1 ∧ keyB x.2.1 = false) : nameT (x :: l) = .ok (x.2.1, l) := if_pos h
theorem wt_free : keyB wt_ = false := by decide +kernel
theorem wr_free : keyB wr_ = false := by decide +kernel
theorem relT_head (X : List Tk) : relT (headT.drop 4 ++ X) = andT (rewT 0 X) fun o r => andT (needT (sg 59) r) fun _ r => .ok (⟨wr_, wr_, wr_, wr_, [(wt_, ⟨#[]⟩)], o⟩, r) := by
  have hw : ∀ a b : Nat, whoT [] ((1, wt_, a) :: (1, sIs, b) :: X) = .ok ([(wt_, ⟨#[]⟩)], (1, sIs, b) :: X) := by
    intro a b
    rw [whoT_eq, name_ok (⟨rfl, wt_free⟩), andT_ok, if_neg (by intro h; cases h), andT_ok, if_neg (by intro h; cases h)]
    rfl
  unfold relT headT
  simp only [List.drop_succ_cons, List.drop_zero, List.cons_append, List.nil_append]
  iterate 9 (first | rw [name_ok (⟨rfl, wr_free⟩), andT_ok] | rw [need_ok rfl, andT_ok])
  rw [if_neg (by rintro (h | h) <;> cases h), hw, andT_ok, if_pos (show isT sIs ((1, sIs, 28) :: X) = true from rfl)]
  rfl
theorem head_parse (X : List Tk) : typesT [] (headT ++ X) = andT (relT (headT.drop 4 ++ X)) fun x r => andT (relsT [x] r) fun rs r => andT (needT (sg 125) r) fun _ r => typesT [⟨wt_, rs⟩] r := by
  rw [typesT_eq, if_pos (show isT sType (headT ++ X) = true from rfl)]
  show andT (relsT [] ((1, sRel, 9) :: (headT.drop 4 ++ X))) _ = _
  rw [relsT_eq, if_pos (show isT sRel ((1, sRel, 9) :: (headT.drop 4 ++ X)) = true from rfl)]
  show andT (andT (relT (headT.drop 4 ++ X)) _) _ = _
  cases relT (headT.drop 4 ++ X) with
  | error e => rfl
  | ok q => rfl
def opN (c : Nat) : Nat := if c = 124 then 4 else if c = 38 then 5 else 6
def leftO : List Nat → List OpP
  | [] => []
  | c :: t => (1, ⟨#[]⟩, ⟨#[]⟩) :: (opN c, ⟨#[]⟩, ⟨#[]⟩) :: leftO t
theorem left_more : ∀ (l : List Nat) (acc : List OpP) (off : Nat), (∀ c ∈ l, c = 124 ∨ c = 38 ∨ c = 45) → ∃ o2, moreT 0 acc (leftT l off) = .ok (acc ++ leftO l, leftT [] o2)
  | [], acc, off, _ => by
    refine ⟨off, ?_⟩
    rw [moreT_eq, if_pos (show opT (leftT [] off) = 0 from rfl)]
    show _ = Except.ok (acc ++ [], _)
    rw [List.append_nil]
  | c :: t, acc, off, h => by
    obtain ⟨o2, ih⟩ := left_more t (acc ++ [(1, ⟨#[]⟩, ⟨#[]⟩)] ++ [(opN c, ⟨#[]⟩, ⟨#[]⟩)]) (off + 7) fun x hx => h x (List.mem_cons_of_mem _ hx)
    refine ⟨o2, ?_⟩
    have hop : opT (leftT (c :: t) off) = opN c := by
      rcases h c (List.mem_cons_self ..) with rfl | rfl | rfl <;> rfl
    have hne : ¬ opN c = 0 := by
      rcases h c (List.mem_cons_self ..) with rfl | rfl | rfl <;> decide
    rw [moreT_eq, hop, if_neg hne]
    show andT (partT 0 ((1, sThis, off + 3) :: leftT t (off + 7))) _ = _
    rw [partT_eq, if_pos (show isT sThis ((1, sThis, off + 3) :: leftT t (off + 7)) = true from rfl), andT_ok]
    show moreT 0 _ (leftT t (off + 7)) = _
    rw [ih]
    simp [leftO]
theorem left_says (l : List Nat) (h : ∀ c ∈ l, c = 124 ∨ c = 38 ∨ c = 45) : outS (schemaF (headT ++ ((1, wp0, 31) :: leftT l 33))) = ([⟨wt_, [⟨wr_, wr_, wr_, wr_, [(wt_, ⟨#[]⟩)], (2, wp0, ⟨#[]⟩) :: leftO l⟩]⟩], 0, 0) := by
  have hdot : ¬ isT (sg 46) (leftT l 33) = true := by
    cases l with
    | nil => intro h; cases h
    | cons c t =>
      rcases h c (List.mem_cons_self ..) with rfl | rfl | rfl <;> (intro h; cases h)
  have hp : partT 0 ((1, wp0, 31) :: leftT l 33) = .ok ([(2, wp0, ⟨#[]⟩)], leftT l 33) := by
    rw [partT_eq, if_neg (show ¬ isT sThis ((1, wp0, 31) :: leftT l 33) = true from by intro h; cases h), if_neg (show ¬ isT (sg 40) ((1, wp0, 31) :: leftT l 33) = true from by intro h; cases h), name_ok (⟨rfl, by decide +kernel⟩), andT_ok, if_neg hdot]
  obtain ⟨o2, hm⟩ := left_more l [(2, wp0, ⟨#[]⟩)] 33 h
  have hr : rewT 0 ((1, wp0, 31) :: leftT l 33) = .ok ([(2, wp0, ⟨#[]⟩)] ++ leftO l, leftT [] o2) := by
    unfold rewT
    rw [hp, andT_ok, hm]
  rw [schemaF_eq, head_parse, relT_head, hr, andT_ok]
  unfold leftT
  rw [need_ok rfl, andT_ok, andT_ok]
  rw [relsT_eq, if_neg (show ¬ isT sRel ((2, sOne 125, o2 + 2) :: [(3, ⟨#[]⟩, o2 + 3)]) = true from by intro h; cases h), andT_ok, need_ok rfl, andT_ok]
  rw [typesT_eq, if_neg (show ¬ isT sType [((3, ⟨#[]⟩, o2 + 3) : Tk)] = true from by intro h; cases h), andT_ok]
  rfl
/-- A sign and a part behind it. -/
def stepS (c : Nat) : ByteArray := sOne 32 ++ (sOne c ++ (sOne 32 ++ sThis))
def leftM : List Nat → ByteArray
  | [] => ⟨#[]⟩
  | c :: t => stepS c ++ leftM t
theorem leftM_snoc (c : Nat) : ∀ l : List Nat, leftM (l ++ [c]) = leftM l ++ stepS c
  | [] => by show stepS c ++ (⟨#[]⟩ : ByteArray) = ⟨#[]⟩ ++ stepS c; rw [app_nil, nil_app']
  | d :: t => by
    show stepS d ++ leftM (t ++ [c]) = stepS d ++ leftM t ++ stepS c
    rw [leftM_snoc c t, app_assoc]
theorem leftR_eq : ∀ l : List Nat, leftR l = leftM l ++ ⟨#[59, 32, 125]⟩
  | [] => by
    show sOne 59 ++ (sOne 32 ++ (sOne 125 ++ ⟨#[]⟩)) = (⟨#[]⟩ : ByteArray) ++ ⟨#[59, 32, 125]⟩
    rfl
  | c :: t => by
    show sOne 32 ++ (sOne c ++ (sOne 32 ++ (sThis ++ leftR t))) = sOne 32 ++ (sOne c ++ (sOne 32 ++ sThis)) ++ leftM t ++ ⟨#[59, 32, 125]⟩
    rw [leftR_eq t]
    simp only [app_assoc]
theorem leftM_size : ∀ l : List Nat, (leftM l).size = 7 * l.length
  | [] => rfl
  | c :: t => by
    show (stepS c ++ leftM t).size = _
    rw [size_app, leftM_size t, List.length_cons]
    have : (stepS c).size = 7 := by
      unfold stepS
      simp only [size_app, sOne_size]
      rfl
    omega
theorem parse_left (l : List Nat) (h : ∀ c ∈ l, c = 124 ∨ c = 38 ∨ c = 45) (hl : l.length ≤ 200) :
    parseS (dHead ++ wp0 ++ leftM l ++ ⟨#[59, 32, 125]⟩) = ([⟨wt_, [⟨wr_, wr_, wr_, wr_, [(wt_, ⟨#[]⟩)], (2, wp0, ⟨#[]⟩) :: leftO l⟩]⟩], 0, 0) := by
  have e0 : dHead ++ wp0 ++ leftM l ++ ⟨#[59, 32, 125]⟩ = dHead ++ (wp0 ++ leftR l) := by
    rw [leftR_eq, app_assoc, app_assoc]
  have hz : (dHead ++ (wp0 ++ leftR l)).size ≤ 2048 := by
    rw [leftR_eq]
    simp only [size_app, leftM_size]
    have : dHead.size = 31 := rfl
    have : wp0.size = 2 := rfl
    have : (⟨#[59, 32, 125]⟩ : ByteArray).size = 3 := rfl
    omega
  have hs : ∀ c ∈ l, signB c = true := by
    intro c hc
    rcases h c hc with rfl | rfl | rfl <;> rfl
  obtain ⟨ts, hh, h0⟩ := dHead_lx
  obtain ⟨v, e⟩ := left_scan l 33 hs
  have hp : nameS wp0 = true := by decide +kernel
  have hv : validS (dHead ++ (wp0 ++ leftR l)) = true := by
    rw [sep_validS (sep_valid hh.1), hh.1, sep_validS (sep_valid (name_valid hp)), name_valid hp, v]
    rfl
  have es : scan (dHead ++ (wp0 ++ leftR l)) 0 = (headT ++ ((1, wp0, 31) :: leftT l 33), 0, 0) := by
    rw [hh.2, scan_word1 hp (left_low l), h0]
    simp only [show dHead.size = 31 from rfl, show wp0.size = 2 from rfl, Nat.zero_add, Nat.reduceAdd]
    rw [e]
    rfl
  rw [e0]
  have hA : allS (dHead ++ (wp0 ++ leftR l)) = (headT ++ ((1, wp0, 31) :: leftT l 33), 0, 0) := by rw [all_ok hz hv (by rw [es]), es]
  unfold parseS
  rw [if_pos (by rw [hA]), hA]
  exact left_says l h
end Go.Proofs.Ytdndncodpepdfaa
