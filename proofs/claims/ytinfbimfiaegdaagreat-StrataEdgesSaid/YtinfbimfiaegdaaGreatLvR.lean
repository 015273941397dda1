/- Layer 10: the document's examples. Conditions: none. -/
import Derived.BigQuiet
import Derived.Deep.QuietTactic
import Derived.Deep.Cut
import Derived.Test.YtinfbimfiaegdaaGreatEdgesW
import Derived.Test.YtinfbimfiaegdaaGreatLevP
namespace Go.Proofs.YtinfbimfiaegdaaGreat
open Go.RowKit

def ex10 : ByteArray := ⟨#[116, 121, 112, 101, 32, 116, 32, 123, 32, 114, 101, 108, 32, 97, 32, 40, 97, 44, 32, 97, 44, 32, 97, 41, 58, 32, 116, 44, 32, 116, 35, 98, 32, 105, 115, 32, 116, 104, 105, 115, 32, 45, 32, 40, 98, 32, 124, 32, 97, 46, 98, 41, 59, 32, 114, 101, 108, 32, 98, 32, 40, 98, 44, 32, 98, 44, 32, 98, 41, 58, 32, 116, 59, 32, 125]⟩
def T10 : List TypP := [⟨⟨#[116]⟩, [⟨⟨#[97]⟩, ⟨#[97]⟩, ⟨#[97]⟩, ⟨#[97]⟩, [(⟨#[116]⟩, ⟨#[]⟩), (⟨#[116]⟩, ⟨#[98]⟩)], [(1, ⟨#[]⟩, ⟨#[]⟩), (2, ⟨#[98]⟩, ⟨#[]⟩), (3, ⟨#[97]⟩, ⟨#[98]⟩), (4, ⟨#[]⟩, ⟨#[]⟩), (6, ⟨#[]⟩, ⟨#[]⟩)]⟩, ⟨⟨#[98]⟩, ⟨#[98]⟩, ⟨#[98]⟩, ⟨#[98]⟩, [(⟨#[116]⟩, ⟨#[]⟩)], [(1, ⟨#[]⟩, ⟨#[]⟩)]⟩]⟩]
theorem ex10_says : parseS ex10 = (T10, 0, 0) := by decide +kernel
theorem T10_edges : edgesP (T10.map typI) = [(0, 1, false), (0, 1, true), (0, 1, true)] := by decide +kernel
/-- Small enough for every reading. -/
theorem small10 (T : List TypP) (h : ∀ t ∈ T, t.name.size ≤ 1000 ∧ t.rels.length ≤ 1000 ∧ ∀ x ∈ t.rels, x.name.size ≤ 1000 ∧ x.view.size ≤ 1000 ∧ x.edit.size ≤ 1000 ∧ x.check.size ≤ 1000 ∧ (x.subs.length ≤ 1000 ∧ ∀ s ∈ x.subs, s.1.size ≤ 1000 ∧ s.2.size ≤ 1000) ∧ (x.ops.length ≤ 1000 ∧ ∀ o ∈ x.ops, (Lit.int .i64 (o.1 : Nat)).wf = true ∧ o.2.1.size ≤ 1000 ∧ o.2.2.size ≤ 1000)) :
    ∀ t ∈ T, t.name.size ≤ 140737488351232 ∧ t.rels.length * 112 ≤ 140737488351232 ∧ ∀ x ∈ t.rels, SmI 140737488351232 x := by
  intro t ht
  obtain ⟨h1, h2, h3⟩ := h t ht
  refine ⟨by omega, by omega, fun x hx => ?_⟩
  obtain ⟨a, b, c, d, ⟨e, f⟩, ⟨g, k⟩⟩ := h3 x hx
  exact ⟨by omega, by omega, by omega, by omega, by omega, fun s hs => by have := f s hs; omega, by omega, fun o ho => by have := k o ho; exact ⟨this.1, by omega, by omega⟩⟩
theorem T10_small : ∀ t ∈ T10, t.name.size ≤ 140737488351232 ∧ t.rels.length * 112 ≤ 140737488351232 ∧ ∀ x ∈ t.rels, SmI 140737488351232 x := small10 T10 (by decide +kernel)

theorem rising_nodup {l : List Ed} (h : Rising l) : l.Nodup := h.imp fun {a b} hab e => by subst e; rw [cfE_neg] at hab; omega
theorem rising_eq {a b : List Ed} (ha : Rising a) (hb : Rising b) (h : ∀ e, e ∈ a ↔ e ∈ b) : a = b :=
  List.Perm.eq_of_pairwise (le := fun a b => cfE a b < 0) (fun x y _ _ h1 h2 => by rw [cfE_neg] at *; omega) ha hb ((List.perm_ext_iff_of_nodup (rising_nodup ha) (rising_nodup hb)).2 h)

theorem bthenZ {B : Nat} {w w1 w2 : World} (h : Below B w w1) (hB : B ≤ w1.heap.size) (k : Below w1.heap.size w1 w2) : Below B w w2 := h.trans (k.mono hB)
theorem bnewZ (w : World) (o : Obj) : Below w.heap.size w (w.alloc o) := (Below.refl _ w).alloc (Nat.le_refl _) o
theorem few_of {l : List TypA} {m n : Nat} (h1 : (relsOf (l.map TypA.says)).length ≤ m) (h2 : ∀ x ∈ relsOf (l.map TypA.says), x.2.subs.length ≤ n ∧ x.2.ops.length ≤ n) : (relsA l).length ≤ m ∧ ∀ x ∈ relsA l, x.2.subs.length ≤ n ∧ x.2.ops.length ≤ n := by
  rw [← relsA_says] at h1 h2
  rw [List.length_map] at h1
  exact ⟨h1, fun x hx => h2 _ (List.mem_map.2 ⟨x, hx, rfl⟩)⟩
theorem T10_few : (relsOf (T10.map typI)).length ≤ 600 ∧ ∀ x ∈ relsOf (T10.map typI), x.2.subs.length ≤ 100000 ∧ x.2.ops.length ≤ 100000 := by decide +kernel

theorem lvA {w' : World} {e : Ending} (h : LvAns 2 [(0, 1, true)] w' e) : ∃ A c, e = .returned (.tuple #[.slice A 2 c, .int .i64 0]) ∧ Rd w' w'.heap.size 1 A 2 c [.int .i64 1, .int .i64 0] := by
  have hi : InR (2 : Int).toNat [(0, 1, true)] := by intro e he; simp at he; subst he; decide
  have hs : Sol 2 [(0, 1, true)] (fun i => if i = 0 then 1 else 0) := ⟨fun i _ => by dsimp only; split <;> omega, fun e he => by simp at he; subst he; decide⟩
  cases h with
  | arg h => rcases h with h | h | h; omega; omega; exact absurd hi h
  | cyc _ _ _ hc => exact (Cyc.none hc hs).elim
  | ok _ _ _ v A c hr hv hL hb =>
    refine ⟨A, c, rfl, ?_⟩
    have hv2 : v.length = 2 := hv
    match v, hv2 with
    | [x, y], _ =>
      have h0 := hL.2 _ hs 0 (by decide)
      have h1 := hL.2 _ hs 1 (by decide)
      have h2 := hL.1.1 1 (by decide)
      have h3 := hL.1.2 _ List.mem_cons_self
      simp [lvAt, fr, tt, rise] at h0 h1 h2 h3
      obtain rfl : y = 0 := by omega
      obtain rfl : x = 1 := by omega
      exact hr
theorem lvB {w' : World} {e : Ending} (h : LvAns 2 [(0, 1, true), (1, 0, false)] w' e) : e = .returned (.tuple #[.slice none 0 0, .int .i64 33]) := by
  have hi : InR (2 : Int).toNat [(0, 1, true), (1, 0, false)] := by intro e he; simp at he; rcases he with rfl | rfl <;> decide
  cases h with
  | arg h => rcases h with h | h | h; omega; omega; exact absurd hi h
  | cyc => rfl
  | ok _ _ _ v A c hr hv hL hb =>
    have h3 := hL.1.2 _ List.mem_cons_self
    have h4 := hL.1.2 (1, 0, false) (by simp)
    simp [fr, tt, rise] at h3 h4
    omega
theorem lvC {w' : World} {e : Ending} (h : LvAns 1 [(0, 1, false)] w' e) : e = .returned (.tuple #[.slice none 0 0, .int .i64 1]) := by
  have hi : ¬ InR (1 : Int).toNat [(0, 1, false)] := fun h => by have := (h _ List.mem_cons_self).2.2.2; simp at this
  cases h with
  | arg h => rfl
  | cyc _ _ h => exact absurd h hi
  | ok _ _ h => exact absurd h hi

theorem levA (W : World) : Calls Tryz.prog 13 #[.int .i64 2, .slice (some ⟨W.heap.size, 0, none⟩) 1 1] (W.alloc (.cells #[.int .i64 0, .int .i64 1, .bool true] 50)) fun e w' =>
    (∃ A c, e = .returned (.tuple #[.slice A 2 c, .int .i64 0]) ∧ Rd w' w'.heap.size 1 A 2 c [.int .i64 1, .int .i64 0]) ∧ Below W.heap.size W w' :=
  (levels_any (n := 2) (l := [(0, 1, true)]) (Rd.litX W #[.int .i64 0, .int .i64 1, .bool true] 50 1 3 _ rfl rfl (by simp [maxLen])) (by simp)).mono fun _ _ ⟨h1, h2⟩ => ⟨lvA h1, (bnewZ W _).trans (h2.mono (by simp))⟩
theorem levB (W : World) : Calls Tryz.prog 13 #[.int .i64 2, .slice (some ⟨W.heap.size, 0, none⟩) 2 2] (W.alloc (.cells #[.int .i64 0, .int .i64 1, .bool true, .int .i64 1, .int .i64 0, .bool false] 50)) fun e w' =>
    e = .returned (.tuple #[.slice none 0 0, .int .i64 33]) ∧ Below W.heap.size W w' :=
  (levels_any (n := 2) (l := [(0, 1, true), (1, 0, false)]) (Rd.litX W #[.int .i64 0, .int .i64 1, .bool true, .int .i64 1, .int .i64 0, .bool false] 50 2 3 _ rfl rfl (by simp [maxLen])) (by simp)).mono fun _ _ ⟨h1, h2⟩ => ⟨lvB h1, (bnewZ W _).trans (h2.mono (by simp))⟩
theorem levC (W : World) : Calls Tryz.prog 13 #[.int .i64 1, .slice (some ⟨W.heap.size, 0, none⟩) 1 1] (W.alloc (.cells #[.int .i64 0, .int .i64 1, .bool false] 50)) fun e w' =>
    e = .returned (.tuple #[.slice none 0 0, .int .i64 1]) ∧ Below W.heap.size W w' :=
  (levels_any (n := 1) (l := [(0, 1, false)]) (Rd.litX W #[.int .i64 0, .int .i64 1, .bool false] 50 1 3 _ rfl rfl (by simp [maxLen])) (by simp)).mono fun _ _ ⟨h1, h2⟩ => ⟨lvC h1, (bnewZ W _).trans (h2.mono (by simp))⟩

set_option maxRecDepth 100000 in
set_option maxHeartbeats 1000000 in
theorem awake10_any (w : World) : Calls Tryz.prog 6 #[] w fun e w' => e = .returned (.bool true) ∧ Below w.heap.size w w' := by
  have ka := fun W => parse_named ex10 (by decide) ex10_says W
  unfold ex10 at ka
  go_enter Tryz.func6, Tryz.ntmps6
  go_wp2_with fail
  refine (levA w).mono ?_
  rintro e w1 ⟨⟨A1, c1, rfl, hv1⟩, hb⟩
  go_wp2_with fail
  refine (levB w1).mono ?_
  rintro e w2 ⟨rfl, hb2⟩
  replace hv1 := hv1.up (hb2.mono (Nat.le_refl _))
  replace hb := bthenZ hb hb.size hb2
  clear hb2
  go_wp2_with fail
  refine (levC w2).mono ?_
  rintro e w3 ⟨rfl, hb2⟩
  replace hv1 := hv1.up hb2
  replace hb := bthenZ hb hb.size hb2
  clear hb2
  go_wp2_with fail
  refine (ka w3).mono ?_
  rintro e w4 ⟨⟨A, c, rfl, hv⟩, hb1⟩
  obtain ⟨l, hl, hs⟩ := hv.sch (R := 140737488351232) (by decide) T10_small
  have hn : l.length = T10.length := by have := congrArg List.length hl; rwa [List.length_map, List.length_map] at this
  replace hv1 := hv1.up hb1
  replace hb := bthenZ hb hb.size hb1
  rw [← hn]
  replace hl := Lib.hid hl
  clear hv ka hn hb1
  go_upto_region 5 with (fail)
  have hbn := bnewZ w4 (.cells #[.slice A l.length c] 25)
  replace hs := hs.up hbn
  replace hv1 := hv1.up hbn
  replace hb := bthenZ hb hb.size hbn
  have x0 := (Bk.new w4 #[.slice A l.length c] 25).c1
  clear hbn
  generalize w4.alloc (.cells #[.slice A l.length c] 25) = w5 at *
  obtain ⟨f1, f2⟩ := few_of (l := l) (by rw [hl.out]; exact T10_few.1) (by rw [hl.out]; exact T10_few.2)
  have ke := edges_any hs (Nat.le_refl _) f1 f2
  rw [hl.out, T10_edges] at ke
  go_upto_region 6 with (go_at_call 10; refine ke.mono ?_; rintro e w6 ⟨A2, c2, zs, rfl, hz1, hz2, hz3, hb1⟩)
  obtain rfl : zs = [(0, 1, false), (0, 1, true)] := rising_eq hz1 (by unfold Rising; decide) (fun e => (hz2 e).trans (by simp))
  replace hv1 := hv1.up hb1
  replace hb := bthenZ hb hb.size hb1
  obtain ⟨b, o, rfl, _, hc⟩ := hv1.at_ (by decide)
  have c0 := hc 0 _ rfl
  have c1 := hc 1 _ rfl
  obtain ⟨b2, o2, rfl, _, hd⟩ := hz3.at_ (by decide)
  have d0 := hd 0 _ rfl
  have d1 := hd 1 _ rfl
  have d2 := hd 2 _ rfl
  have d3 := hd 3 _ rfl
  have d4 := hd 4 _ rfl
  have d5 := hd 5 _ rfl
  clear hz1 hz2 ke x0 hs hb1 hc hd hz3 hv1 f1 f2 hl
  simp only [Nat.add_zero] at c0 c1 d0 d1 d2 d3 d4 d5
  go_wp2_with fail
  go_ret
  exact ⟨rfl, hb⟩
end Go.Proofs.YtinfbimfiaegdaaGreat
/- Layer 10: what Levels answers, in one form. Conditions: none. -/
namespace Go.Proofs.YtinfbimfiaegdaaGreat
open Go.RowKit

/-- An edge's cells. -/
theorem edge_at {w : World} {B n c : Nat} {A : Option Addr} {l : List Ed} (h : Rd w B 3 A n c (ecells l)) {i : Nat} {e : Ed} (hi : l[i]? = some e) (hn : n = l.length) :
    ∃ b k, A = some ⟨b, k, none⟩ ∧ b < B ∧ w.cell? ⟨b, k + i * 3, none⟩ = some (.int .i64 e.1) ∧ w.cell? ⟨b, k + i * 3 + 1, none⟩ = some (.int .i64 e.2.1) ∧ w.cell? ⟨b, k + i * 3 + 2, none⟩ = some (.bool e.2.2) := by
  subst hn
  obtain ⟨b, k, e2, hb, hc⟩ := h.at_ (lt_get hi)
  obtain ⟨g0, g1, g2⟩ := ecells_get hi
  exact ⟨b, k, e2, hb, hc _ _ g0, by rw [Nat.add_assoc]; exact hc _ _ g1, by rw [Nat.add_assoc]; exact hc _ _ g2⟩
theorem notsOf_snoc (l : List Ed) (e : Ed) : notsOf (l ++ [e]) = notsOf l + (if e.2.2 then 1 else 0) := by
  unfold notsOf
  rw [List.filter_append, List.length_append]
  cases h : e.2.2 <;> simp [h]

/-- What Levels answers: ErrArg, ErrCycle, or the least levels. -/
inductive LvIs (n : Nat) (l : List Ed) : List Int → Int → Prop
  | arg (hi : ¬ InR n l) : LvIs n l [] 1
  | cyc (hi : InR n l) (hc : Cyc l) : LvIs n l [] 33
  | ok (hi : InR n l) (v : List Int) (hv : v.length = n) (hL : Least n l (lvAt v)) (hb : ∀ x ∈ v, 0 ≤ x ∧ x ≤ 4096) : LvIs n l v 0
theorem levels_res {w : World} {n c : Nat} {A : Option Addr} {l : List Ed} (h : Rd w w.heap.size 3 A l.length c (ecells l)) (hl : l.length ≤ 100000) (hn : n ≤ 4096) :
    Calls Tryz.prog 13 #[.int .i64 (n : Int), .slice A l.length c] w fun e w' => (∃ A' c' v s, e = .returned (.tuple #[.slice A' v.length c', .int .i64 s]) ∧ Rd w' w'.heap.size 1 A' v.length c' (lvs v) ∧ LvIs n l v s) ∧ Below w.heap.size w w' :=
  (levels_any (n := (n : Int)) h hl).mono fun e w' ⟨h1, h2⟩ => ⟨by
    cases h1 with
    | arg h =>
      rcases h with h | h | h
      · omega
      · omega
      · exact ⟨none, 0, [], 1, rfl, Rd.none_ _ _ _, .arg h⟩
    | cyc _ _ hi hc => exact ⟨none, 0, [], 33, rfl, Rd.none_ _ _ _, .cyc hi hc⟩
    | ok _ _ hi v A c hr hv hL hb =>
      rw [Int.toNat_natCast] at *
      subst hv
      exact ⟨A, c, v, 0, rfl, hr, .ok hi v rfl hL hb⟩, h2⟩
theorem lv_cell {v : List Int} {i : Nat} (hi : i < v.length) : (lvs v)[i]? = some (.int .i64 (lvAt v i)) := by
  simp only [lvs, List.getElem?_map, List.getElem?_eq_getElem hi, Option.map_some]
  simp [lvAt, hi]
/-- The same edges have the same answer. -/
theorem LvIs.same {n : Nat} {l m : List Ed} {v u : List Int} {s r : Int} (h : LvIs n l v s) (k : LvIs n m u r) (hs : ∀ e, e ∈ l ↔ e ∈ m) : v = u ∧ s = r := by
  have hi : InR n l ↔ InR n m := ⟨fun h e he => h e ((hs e).2 he), fun h e he => h e ((hs e).1 he)⟩
  have h1 : ∀ e ∈ l, e ∈ m := fun e he => (hs e).1 he
  have h2 : ∀ e ∈ m, e ∈ l := fun e he => (hs e).2 he
  cases h with
  | arg hl =>
    cases k with
    | arg => exact ⟨rfl, rfl⟩
    | cyc hm => exact absurd (hi.2 hm) hl
    | ok hm => exact absurd (hi.2 hm) hl
  | cyc hl hc =>
    cases k with
    | arg hm => exact absurd (hi.1 hl) hm
    | cyc => exact ⟨rfl, rfl⟩
    | ok _ _ _ hL => exact (Cyc.none (hc.sub h1) hL.1).elim
  | ok hl v hv hL =>
    cases k with
    | arg hm => exact absurd (hi.1 hl) hm
    | cyc _ hc => exact (Cyc.none (hc.sub h2) hL.1).elim
    | ok _ u hu hM =>
      refine ⟨List.ext_getElem (by omega) fun i h3 h4 => ?_, rfl⟩
      have := (hL.congr hs).same hM (i := i) (by omega)
      simpa [lvAt, h3, h4] using this
end Go.Proofs.YtinfbimfiaegdaaGreat
