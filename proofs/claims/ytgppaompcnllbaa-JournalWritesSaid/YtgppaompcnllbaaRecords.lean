/- Layer 4: Records, called; records held against texts; whether they are few. Conditions: none. -/
import Derived.Test.YtgppaompcnllbaaAppend
namespace Go.Proofs.Ytgppaompcnllbaa
open Go.RowKit

/-- Rows of bytes that a call has made. -/
structure WasR (M : Nat) (wr : World) (wv : Value) (rows : List Rw) : Prop where
  row : wr.ownsRow M 36 1 wv rows.length (rows.map rwCell)
  each : ∀ r ∈ rows, wr.ownsRow M 5 1 (rwCell r) r.b.length (bv r.b)
theorem WasR.below {M : Nat} {wr w' : World} {wv : Value} {rows : List Rw} (h : WasR M wr wv rows) (hb : Below wr.heap.size wr w') : WasR M w' wv rows :=
  ⟨own_below h.row hb, fun r hr => own_below (h.each r hr) hb⟩
theorem WasR.more {M : Nat} {wr v2 v3 : World} {wv wv' : Value} {rows : List Rw} {r : Rw} {o : Obj} (h : WasR M wr wv rows) (hb2 : Below wr.heap.size wr v2) (hM : M ≤ wr.heap.size)
    (ho : v2.ownsRow wr.heap.size 5 1 (rwCell r) r.b.length (bv r.b)) (hown : v3.ownsRow M 36 1 wv' (rows.length + 1) (rows.map rwCell ++ [rwCell r])) (hg : (v2.alloc o).grownBy v3 wv.ownBlock) : WasR M v3 wv' (rows ++ [r]) := by
  have h2 := h.below hb2
  have hne : ∀ {v : Value} {n : Nat} {xs : List Value} {B : Nat}, v2.ownsRow B 5 1 v n xs → v3.ownsRow B 5 1 v n xs := fun {v n xs B} hv => by
    refine (hv.alloc o).kept hg ?_
    cases hvb : v.ownBlock with
    | none => exact .inl rfl
    | some q => exact .inr fun e => own_ne (hv.alloc o) (h2.row.alloc o) (by decide) hvb e.symm
  refine ⟨?_, fun r' hr => ?_⟩
  · rw [List.map_append, List.map_singleton, List.length_append, List.length_singleton]; exact hown
  · rcases List.mem_append.1 hr with hr | hr
    · exact hne (h2.each r' hr)
    · simp at hr
      subst hr
      exact hne (own_base ho hM)
/-- A slice of slices of bytes that reads as a list of records. -/
def RRs (w : World) (A : Option Addr) (c : Nat) (bs : List (List UInt8)) : Prop :=
  ∃ rows : List Rw, rows.map Rw.b = bs ∧ Rd w w.heap.size 1 A bs.length c (rows.map rwCell) ∧ ∀ r ∈ rows, RwOk w r
theorem RwOk.below {w w' : World} {r : Rw} (h : RwOk w r) (hb : Below w.heap.size w w') : RwOk w' r := (Rd.below h hb).more hb.size
theorem RRs.below {w w' : World} {A : Option Addr} {c : Nat} {bs : List (List UInt8)} (h : RRs w A c bs) (hb : Below w.heap.size w w') : RRs w' A c bs := by
  obtain ⟨rows, h1, h2, h3⟩ := h
  exact ⟨rows, h1, (h2.below hb).more hb.size, fun r hr => (h3 r hr).below hb⟩
theorem RRs.nil (w : World) : RRs w none 0 [] := ⟨[], rfl, Rd.none_ _ _ _, fun _ h => (by cases h)⟩
theorem RRs.at_ {w : World} {A : Option Addr} {c : Nat} {bs : List (List UInt8)} (h : RRs w A c bs) {k : Nat} {x : List UInt8} (hk : bs[k]? = some x) :
    ∃ b o r, A = some ⟨b, o, none⟩ ∧ b < w.heap.size ∧ w.cell? ⟨b, o + k, none⟩ = some (.slice r.A x.length r.c) ∧ r.b = x ∧ RwOk w r := by
  obtain ⟨rows, h1, h2, h3⟩ := h
  obtain ⟨hlt, hx⟩ := List.getElem?_eq_some_iff.1 hk
  obtain ⟨b, o, u, e, hb, hu, hc⟩ := h2.get hlt
  rw [List.getElem?_map] at hu
  have hk2 := hk
  rw [← h1, List.getElem?_map] at hk2
  cases hr : rows[k]? with
  | none => rw [hr] at hu; cases hu
  | some r =>
    rw [hr] at hu hk2
    simp at hu hk2
    subst hu
    subst hk2
    exact ⟨b, o, r, e, hb, hc, rfl, h3 r (List.mem_of_getElem? hr)⟩

theorem records_nil (w : World) : Calls Try.prog 16 #[.pointer none] w fun e w' => e = .returned (.slice none 0 0) ∧ w' = w := by
  go_enter Try.func16, Try.ntmps16
  go_wp2
  go_ret
  exact ⟨rfl, rfl⟩
set_option maxRecDepth 100000 in
set_option maxHeartbeats 2000000 in
theorem records_any {L : Nat → Prop} {w : World} {g b : Nat} {t : LSt} (h : Lg L w g b t) : Calls Try.prog 16 #[.pointer (some ⟨g, 0, none⟩)] w fun e w' => ∃ A c, e = .returned (.slice A t.recs.length c) ∧ RRs w' A c t.recs ∧ Below w.heap.size w w' := by
  obtain ⟨rv, rows0, h⟩ := h
  have c4 := h.c4
  have hfew := h.ok.few
  have hmo := h.ok.most
  have hle := h.ok.le
  have hrow := h.row
  have hsz := h.ok.sz
  have hrr : RRs w (match rv with | .slice A _ _ => A | _ => none) (match rv with | .slice _ _ c => c | _ => 0) t.recs := by
    obtain ⟨A, c, rfl, hr⟩ := Rd.own hrow
    exact ⟨rows0, h.recs, hr, h.rd⟩
  obtain ⟨A, c, rfl, _⟩ := Rd.own h.row
  simp only at hrr
  have Hsz := Lib.hid hsz
  have hn16 : t.recs.length ≤ 65536 := by omega
  generalize hR : t.recs = R at *
  obtain ⟨i0, hi, hz0, hz1, hz2⟩ := info_parts info_bytes
  clear h hsz hrow hfew hmo hle hR
  go_enter Try.func16, Try.ntmps16
  go_wp2
  go_loopw [3, 13] (fun vo vi wr => ∃ (k : Nat) (rows : List Rw), vi = .int .i64 k ∧ k ≤ R.length ∧ rows.map Rw.b = R.take k ∧ WasR w.heap.size wr vo rows ∧ Below w.heap.size w wr) (fun _ vi _ => R.length - (intOf vi).toNat)
  case atStart => exact ⟨0, [], rfl, Nat.zero_le _, rfl, ⟨World.ownsRow_nil _ _ _ _, fun r h => (by cases h)⟩, Below.refl _ _⟩
  case round =>
    obtain ⟨k, rows, rfl, hk, hrs, hwas, hb⟩ := hrel
    have hrl : rows.length = k := by
      have := congrArg List.length hrs
      rw [List.length_map, List.length_take] at this
      omega
    subst hrl
    have Hrs := Lib.hid hrs
    clear hrs
    by_cases hlt : rows.length < R.length
    · have hlz : (rows.length : Int) < (R.length : Int) := by omega
      obtain ⟨x, hx⟩ : ∃ x, R[rows.length]? = some x := ⟨R[rows.length], List.getElem?_eq_getElem hlt⟩
      obtain ⟨q, o, r, rfl, hq, cq, hrb, hrok⟩ := (hrr.below (w' := wr) hb).at_ hx
      have hxl := Hsz.out x (List.mem_of_getElem? hx)
      have hrx : Rd wr wr.heap.size 1 r.A x.length r.c (bv x) := by rw [← hrb]; exact hrok
      have Hx := Lib.hid hx
      have hbs := hb.size
      replace hb := Lib.hid hb
      clear hx hrb hrok
      obtain ⟨A3, c3, rfl, _⟩ := Rd.own hwas.row
      go_wp2_with (first
        | ((with_reducible refine (clone_any r.A x.length r.c x _ hrx (by omega)).mono ?_); rintro e w2 ⟨v2, rfl, ho2, hb2⟩; obtain ⟨A2, c2, rfl, _⟩ := Rd.own ho2; have hrow2 := own_below hwas.row hb2)
        | (at_builtin; refine wpList_append_src _ rfl (.tmp 17) (.tmp 20) 23 23 rfl w.heap.size 36 i0 (.slice none 0 0) 1 24 Try.underlying23 hi hz0 hz1 hz2 rfl (by decide) (.slice A3 rows.length c3) rows.length (rows.map rwCell) rfl (hrow2.alloc _) _ 1 [_] rfl (Src.ofSlice _ Try.underlying23 _ 1 1 _ rfl (cell_one_new _ _ _) (fun u hu => by simp at hu; subst hu; rfl)) (by simp only [maxLen]; omega) (by omega) (by simp; have := hb2.size; omega) ?_; intro wv' w3 hown3 hg3 hat3))
      have hs2 := hb2.size
      have hb3 : Below w.heap.size w w3 := ((hb.out.trans (hb2.mono hbs)).alloc (by omega) _).grown hg3 (by simp; omega) fun q e => (hrow2.lt q e).1
      refine ⟨⟨rows.length + 1, rows ++ [⟨A2, c2, x⟩], by simp, by omega, ?_, hwas.more (r := ⟨A2, c2, x⟩) hb2 hbs ho2 hown3 hg3, hb3⟩, by simp [intOf]; omega⟩
      rw [List.map_append, Hrs.out, List.take_add_one, Hx.out]; rfl
    · have hrn : rows.length = R.length := by omega
      have hrs := Hrs.out
      rw [hrn, List.take_length] at hrs
      have hlz : decide (rows.length < R.length) = false := by simp; omega
      have Hrn := Lib.hid hrn
      replace hrs := Lib.hid hrs
      clear hrn
      obtain ⟨A3, c3, rfl, hrd⟩ := Rd.own hwas.row
      go_wp2
      go_ret
      refine ⟨A3, c3, by rw [Hrn.out]; rfl, ⟨rows, hrs.out, by rw [← Hrn.out]; exact hrd, fun r hr => ?_⟩, hb⟩
      obtain ⟨A', c', e', hr'⟩ := Rd.own (hwas.each r hr)
      cases e'
      exact hr'
end Go.Proofs.Ytgppaompcnllbaa
