/- DeviceKeeps, walked. Conditions: none. -/
import Derived.Test.YtiehnimkjneonaaFew
import Derived.Deep.QuietTactic
import Derived.BigQuiet
namespace Go.Proofs.Ytiehnimkjneonaa
open Go.RowKit

/-! a disk that isn't armed -/
structure Un (n : Nat) (s : St) : Prop where
  len : s.kept.length = n
  dead : s.dead = false
  left : s.left = 0
theorem Un.count {n : Nat} {s : St} (h : Un n s) : s.count = s := by unfold St.count; rw [if_neg (by rw [h.left]; omega)]
theorem Un.wrote {n : Nat} {s : St} (h : Un n s) (i : Int) (l : List UInt8) : Un n (s.wrote i l) := ⟨h.len, h.dead, h.left⟩
theorem Un.flushed {n : Nat} {s : St} (h : Un n s) : Un n s.flushed := ⟨by show s.now.length = n; rw [St.nowLen, h.len], h.dead, h.left⟩
theorem Un.fresh (n : Nat) : Un n (St.fresh n) := ⟨by simp [St.fresh], rfl, rfl⟩
def okB (s : St) (i : Int) (l : List UInt8) : Bool := s.has i && decide (l.length ≤ 64)
def stB (s : St) (i : Int) (l : List UInt8) : St := if okB s i l then s.wrote i l else s
theorem Un.stB {n : Nat} {s : St} (h : Un n s) (i : Int) (l : List UInt8) : Un n (stB s i l) := by unfold Go.Proofs.Ytiehnimkjneonaa.stB; split; exact h.wrote i l; exact h
theorem write_un {S : Nat → Prop} {w : World} {b n : Nat} {s : St} (h : Ds S w b s) (hu : Un n s) (i : Int) {A : Option Addr} {c : Nat} {l : List UInt8} (hr : Rd w w.heap.size 1 A l.length c (bv l)) (ha : 0 < l.length → ∀ b o, A = some ⟨b, o, none⟩ → ¬ S b) (hw : s.waits.length < 1000000) :
    Calls Try.prog 12 #[.pointer (some ⟨b, 0, none⟩), .int .i64 i, .slice A l.length c] w fun e w' => e = .returned (.int .i64 (if okB s i l then 0 else 1)) ∧ Ds (Grow S w w') w' b (stB s i l) ∧ Ks S w w' := by
  cases ho : okB s i l with
  | true =>
    have h2 : s.has i = true ∧ l.length ≤ 64 := by simpa [okB] using ho
    have := write_s h i hr ha h2.1 h2.2 (by rw [hu.count]; exact hu.dead) hw
    rw [hu.count] at this
    have e : stB s i l = s.wrote i l := by rw [stB, if_pos ho]
    rw [e]
    exact this
  | false =>
    have e : stB s i l = s := by rw [stB, if_neg (by rw [ho]; simp)]
    refine (write_bad_s h i A l.length c ?_).mono fun e' w' ⟨he, hw'⟩ => ?_
    · cases hh : s.has i with
      | false => exact .inl rfl
      | true => simp [okB, hh] at ho; exact .inr ho
    · subst hw'
      rw [e]
      exact ⟨he, h.wide (fun _ e => .inl e) (fun g e => by rcases e with e | e; exact h.size g e; exact e.2), Ks.refl _ _⟩
theorem own_ne {w : World} {b1 b2 : Nat} {e1 e2 : TypeId} {z1 z2 n1 n2 : Nat} {v1 v2 : Value} {x1 x2 : List Value} (h1 : w.ownsRow b1 e1 z1 v1 n1 x1) (h2 : w.ownsRow b2 e2 z2 v2 n2 x2) (he : e1 ≠ e2) {g : Nat} (hg : v1.ownBlock = some g) : v2.ownBlock ≠ some g := by
  intro hg2
  rcases h1.2 with ⟨rfl, _⟩ | ⟨g1, c1, cur1, rfl, _, hh1, _⟩
  · cases hg
  · rcases h2.2 with ⟨rfl, _⟩ | ⟨g2, c2, cur2, rfl, _, hh2, _⟩
    · cases hg2
    · cases hg
      cases hg2
      have := hh1.symm.trans hh2
      simp at this
      exact he this.2
theorem in_bb {A : Option Addr} {w : World} {B size n c : Nat} {xs : List Value} (h : Rd w B size A n c xs) {S : Nat → Prop} (hS : ∀ k, S k → B ≤ k) : 0 < n → ∀ b o, A = some ⟨b, o, none⟩ → ¬ S b := fun hn b o e hs => by
  obtain ⟨b', o', e', hb, _⟩ := h.at_ hn
  rw [e] at e'
  cases e'
  have := hS b hs
  omega
/-- What has been read of the sectors. -/
structure Was (M : Nat) (wr : World) (wv : Value) (F : List Sec) (rows : List Rw) : Prop where
  row : wr.ownsRow M 34 1 wv rows.length (rows.map rwCell)
  each : ∀ r ∈ rows, wr.ownsRow M 5 1 (rwCell r) 64 (bv r.b)
  what : rows.map (·.b) = F
theorem own_below {w w' : World} {base : Nat} {e : TypeId} {size n : Nat} {v : Value} {xs : List Value} (h : w.ownsRow base e size v n xs) (hb : Below w.heap.size w w') : w'.ownsRow base e size v n xs := own_same h fun g e => hb.block g (h.lt g e).2
theorem Was.below {M : Nat} {wr w' : World} {wv : Value} {F : List Sec} {rows : List Rw} (h : Was M wr wv F rows) (hb : Below wr.heap.size wr w') : Was M w' wv F rows :=
  ⟨own_below h.row hb, fun r hr => own_below (h.each r hr) hb, h.what⟩
theorem Was.same {M : Nat} {wr w' : World} {wv : Value} {F : List Sec} {rows : List Rw} (h : Was M wr wv F rows) (hb : ∀ j, M ≤ j → j < wr.heap.size → w'.heap[j]? = wr.heap[j]?) : Was M w' wv F rows :=
  ⟨own_same h.row fun g e => hb g (h.row.lt g e).1 (h.row.lt g e).2, fun r hr => own_same (h.each r hr) fun g e => hb g ((h.each r hr).lt g e).1 ((h.each r hr).lt g e).2, h.what⟩
theorem Was.more {M : Nat} {wr v2 v3 : World} {wv wv' : Value} {F : List Sec} {rows : List Rw} {g cg : Nat} {p : Sec} {o : Obj} (h : Was M wr wv F rows) (hb2 : Below wr.heap.size wr v2) (hM : M ≤ wr.heap.size) (hp : p.length = 64)
    (ho : v2.ownsRow wr.heap.size 5 1 (.slice (some ⟨g, 0, none⟩) 64 cg) 64 (bv p)) (hown : v3.ownsRow M 34 1 wv' (rows.length + 1) (rows.map rwCell ++ [.slice (some ⟨g, 0, none⟩) 64 cg])) (hg : (v2.alloc o).grownBy v3 wv.ownBlock) :
    Was M v3 wv' (F ++ [p]) (rows ++ [⟨some ⟨g, 0, none⟩, cg, p⟩]) := by
  have h2 := (h.below hb2)
  have hne : ∀ {v : Value} {n : Nat} {xs : List Value} {B : Nat}, v2.ownsRow B 5 1 v n xs → v3.ownsRow B 5 1 v n xs := fun {v n xs B} hv => by
    refine (hv.alloc o).kept hg ?_
    cases hvb : v.ownBlock with
    | none => exact .inl rfl
    | some q => exact .inr fun e => own_ne (hv.alloc o) (h2.row.alloc o) (by decide) hvb e.symm
  have hpc : rwCell ⟨some ⟨g, 0, none⟩, cg, p⟩ = .slice (some ⟨g, 0, none⟩) 64 cg := by rw [rwCell, hp]
  refine ⟨?_, fun r hr => ?_, by rw [List.map_append, h.what]; rfl⟩
  · rw [List.map_append, List.map_singleton, hpc, List.length_append, List.length_singleton]; exact hown
  · rcases List.mem_append.1 hr with hr | hr
    · exact hne (h2.each r hr)
    · simp at hr
      subst hr
      rw [hpc]
      exact hne (own_base ho hM)
theorem info_bytes : (Try.prog.info? 34).map (fun i => (i.zero, i.size, i.bytes)) = some (some (.slice none 0 0), 1, 24) := by kernel_rfl
theorem info_bool : (Try.prog.info? 4).map (fun i => (i.zero, i.size, i.bytes)) = some (some (.bool false), 1, 1) := by kernel_rfl
theorem few_keep {W w1 : World} {la : List Ac} {A : Option Addr} {c : Nat} (hr : Rd W W.heap.size 4 A la.length c (la.flatMap acCells)) (hb : Below W.heap.size W w1) :
    Calls Try.prog 9 #[.slice A la.length c] w1 fun e w' => e = .returned (.bool (fewB la)) ∧ w' = w1 := few_any w1 (hr.below hb)
theorem drewDs {S : Nat → Prop} {w : World} {b : Nat} {s : St} (h : Ds S w b s) : Ds S w.drew b s := h.same (Nat.le_refl _) fun _ _ => rfl
theorem drewKs {S : Nat → Prop} {w w' : World} (h : Ks S w.drew w') : Ks S w w' := ⟨h.os, h.tape, h.output, h.size, h.block⟩

theorem puts_other (ps : List (Nat × Sec)) (k : Nat) : ∀ (l : List Sec), (∀ p ∈ ps, p.1 ≠ k) → (puts l ps)[k]? = l[k]? := by
  induction ps with
  | nil => intro l _; rfl
  | cons p r ih =>
    intro l h
    show (puts (put1 l p) r)[k]? = _
    rw [ih _ fun q hq => h q (List.mem_cons_of_mem _ hq), put1, List.getElem?_set_ne (h p (List.mem_cons_self ..))]
theorem pick_every {α : Type} {f : Nat → Bool} {ws : List α} (h : ∀ j, j < ws.length → f j = true) : pick f ws = ws := by
  have : ws.zipIdx.filter (fun p => f p.2) = ws.zipIdx := List.filter_eq_self.2 fun p hp => by
    obtain ⟨q, i⟩ := p
    have := List.mem_zipIdx hp
    exact h i (by omega)
  rw [pick, this]; exact List.zipIdx_map_fst 0 ws
theorem pick_none {α : Type} (ws : List α) : pick (fun n => ([] : List Bool).getD n false) ws = [] := by
  have : ws.zipIdx.filter (fun p => (fun n => ([] : List Bool).getD n false) p.2) = [] := List.filter_eq_nil_iff.2 fun p hp => by simp
  rw [pick, this]; rfl
/-- What is read behind a restart. -/
theorem re_sect (s : St) (keep : List Bool) (k : Nat) : (s.restart keep).sect (k : Int) = (puts s.kept (pick (fun n => keep.getD n false) s.waits))[k]?.getD [] := rfl
theorem re_has {s : St} {keep : List Bool} {k : Nat} (h : k < s.kept.length) : (s.restart keep).has (k : Int) = true := St.has_iff.2 ⟨by omega, by show (k : Int) < ((puts _ _).length : Int); rw [puts_length]; omega⟩
theorem re_all {s : St} {keep : List Bool} (h : ∀ j, j < s.waits.length → keep.getD j false = true) (k : Nat) : (s.restart keep).sect (k : Int) = s.sect (k : Int) := by
  rw [re_sect, pick_every (f := fun n => keep.getD n false) h]; rfl
theorem re_none (s : St) (k : Nat) : (s.restart []).sect (k : Int) = s.kept[k]?.getD [] := by rw [re_sect, pick_none]; rfl
theorem re_far {s : St} {keep : List Bool} {k : Nat} (h : ∀ p ∈ s.waits, p.1 ≠ k) : (s.restart keep).sect (k : Int) = s.kept[k]?.getD [] := by
  rw [re_sect, puts_other _ _ _ fun p hp => h p (pick_mem hp)]
theorem read_rs {S : Nat → Prop} {w : World} {b : Nat} {s : St} (h : Ds S w b s) (i : Int) (hi1 : s.has i = true) (hd : s.dead = false) (p : Sec) (hp : s.sect i = p) :
    Calls Try.prog 21 #[.pointer (some ⟨b, 0, none⟩), .int .i64 i] w fun e w' => ∃ g c, e = .returned (.tuple #[.slice (some ⟨g, 0, none⟩) 64 c, .int .i64 0]) ∧ Rd w' w'.heap.size 1 (some ⟨g, 0, none⟩) 64 c (bv p) ∧ Below w.heap.size w w' := by
  refine (read_s h i hi1 hd).mono ?_
  rintro e w' ⟨v, rfl, ho, hb⟩
  obtain ⟨g, c, rfl, _, _⟩ := own_pos ho (by omega)
  obtain ⟨A, c', e', hr⟩ := Rd.own ho
  cases e'
  exact ⟨g, c, rfl, by rw [← hp]; exact hr, hb⟩
theorem wait0 {S : Nat → Prop} {w : World} {b : Nat} {s : St} {keep : List Bool} (h : Ds S w b (s.restart keep)) : Calls Try.prog 18 #[.pointer (some ⟨b, 0, none⟩)] w fun e w' => e = .returned (.int .i64 0) ∧ w' = w := waiting_s h
theorem restart_n {S : Nat → Prop} {w : World} {b m : Nat} {s : St} (h : Ds S w b s) (hw : s.waits.length ≤ 1000000) {A : Option Addr} {c C : Nat} {keep : List Bool} (hm : keep.length = m) (hr : Rd w C 1 A m c (keep.map Value.bool)) (hC : C ≤ w.heap.size) :
    Calls Try.prog 19 #[.pointer (some ⟨b, 0, none⟩), .slice A m c] w fun e w' => ∃ b', e = .returned (.pointer (some ⟨b', 0, none⟩)) ∧ Ds (In w.heap.size w'.heap.size) w' b' (s.restart keep) ∧ Below w.heap.size w w' := by
  subst hm
  exact restart_s h hw hr hC
theorem Rd.convN {w : World} {B n c : Nat} {A : Option Addr} {l : List UInt8} (h : Rd w B 1 A n c (bv l)) (m : Nat) : (convert 34 9 (.slice A n c)).run Try.prog (w.drewN m) = .ok (.string (strOf l)) (w.drewN m) :=
  (show Rd (w.drewN m) B 1 A n c (bv l) from h.keep fun _ _ => rfl).conv (P := Try.prog) 34 9 5 Try.underlying34 Try.underlying5 Try.underlying9
theorem Rd.nilBool (W : World) : Rd W 0 1 none 0 0 (([] : List Bool).map Value.bool) := ⟨rfl, Nat.le_refl _, by simp [maxLen], fun _ => ⟨rfl, rfl⟩, fun h => absurd h (by simp)⟩
theorem restart_0 {S : Nat → Prop} {w : World} {b : Nat} {s : St} (h : Ds S w b s) (hw : s.waits.length ≤ 1000000) :
    Calls Try.prog 19 #[.pointer (some ⟨b, 0, none⟩), .slice none 0 0] w fun e w' => ∃ b', e = .returned (.pointer (some ⟨b', 0, none⟩)) ∧ Ds (In w.heap.size w'.heap.size) w' b' (s.restart []) ∧ Below w.heap.size w w' := restart_n h hw rfl (Rd.nilBool w) (Nat.zero_le _)

set_option maxRecDepth 100000 in
set_option maxHeartbeats 16000000 in
theorem keeps_walk (w : World) (x : Int) (hx : 0 ≤ x ∧ x ≤ 255) {A B K : Option Addr} {ca cb ck : Nat} {la lb : List Ac} {keep : List Bool} (hr : Rd w w.heap.size 4 A la.length ca (la.flatMap acCells)) (hl : ∀ a ∈ la, AcOk w a)
    (hr2 : Rd w w.heap.size 4 B lb.length cb (lb.flatMap acCells)) (hl2 : ∀ a ∈ lb, AcOk w a) (hk : Rd w w.heap.size 1 K keep.length ck (keep.map Value.bool)) :
    Calls Try.prog 4 #[.int .u8 x, .slice A la.length ca, .slice B lb.length cb, .slice K keep.length ck] w fun e w' => e = .returned (.bool true) ∧ Below w.heap.size w w' := by
  have Hb := Lib.hid (Below.refl w.heap.size w)
  have hB : w.heap.size ≤ w.heap.size := Nat.le_refl _
  obtain ⟨hx0, hx1⟩ := hx
  obtain ⟨n, hn⟩ : ∃ n : Nat, x % 6 + 1 = (n : Int) := ⟨(x % 6 + 1).toNat, by omega⟩
  have hn1 : 1 ≤ n := by omega
  have hn6 : n ≤ 6 := by omega
  have kF := fun W (hb : Below w.heap.size w W) => few_keep hr hb
  have kG := fun W (hb : Below w.heap.size w W) => few_keep hr2 hb
  have hcm := hr.capm
  have hcc := hr.cap
  have hlm : la.length ≤ 9223372036854775807 := by simp only [maxLen] at hcm; omega
  have hcm2 := hr2.capm
  have hcc2 := hr2.cap
  have hlm2 : lb.length ≤ 9223372036854775807 := by simp only [maxLen] at hcm2; omega
  have hem := hk.capm
  have hec := hk.cap
  have hkm : keep.length ≤ 9223372036854775807 := by simp only [maxLen] at hem; omega
  go_enter Try.func4, Try.ntmps4
  cases hfew : fewB la with
  | false =>
    rw [hfew] at kF
    go_wp2_with (first
      | ((with_reducible refine (awake_any _).mono ?_); rintro e w1 ⟨rfl, hb⟩; obtain ⟨Hb, hB⟩ := chain Hb hB hb; clear hb)
      | ((with_reducible refine (kF _ Hb.out).mono ?_); rintro e w2 ⟨rfl, rfl⟩)
      | ((with_reducible refine (kG _ Hb.out).mono ?_); rintro e w2 ⟨rfl, rfl⟩))
    go_ret
    exact ⟨rfl, Hb.out⟩
  | true =>
  rw [hfew] at kF
  cases hfew2 : fewB lb with
  | false =>
    rw [hfew2] at kG
    go_wp2_with (first
      | ((with_reducible refine (awake_any _).mono ?_); rintro e w1 ⟨rfl, hb⟩; obtain ⟨Hb, hB⟩ := chain Hb hB hb; clear hb)
      | ((with_reducible refine (kF _ Hb.out).mono ?_); rintro e w2 ⟨rfl, rfl⟩)
      | ((with_reducible refine (kG _ Hb.out).mono ?_); rintro e w2 ⟨rfl, rfl⟩))
    go_ret
    exact ⟨rfl, Hb.out⟩
  | true =>
  rw [hfew2] at kG
  by_cases hk60 : keep.length ≤ 60
  case neg =>
    have hz : (60 : Int) < (keep.length : Int) := by omega
    go_wp2_with (first
      | ((with_reducible refine (awake_any _).mono ?_); rintro e w1 ⟨rfl, hb⟩; obtain ⟨Hb, hB⟩ := chain Hb hB hb; clear hb)
      | ((with_reducible refine (kF _ Hb.out).mono ?_); rintro e w2 ⟨rfl, rfl⟩)
      | ((with_reducible refine (kG _ Hb.out).mono ?_); rintro e w2 ⟨rfl, rfl⟩))
    go_ret
    exact ⟨rfl, Hb.out⟩
  obtain ⟨_, hl60⟩ := fewB_iff.1 hfew
  obtain ⟨_, hl60'⟩ := fewB_iff.1 hfew2
  have hkz : (keep.length : Int) ≤ 60 := by omega
  have kN := fun W => new_any W n hn1 (by omega)
  go_wp2_with (first
    | ((with_reducible refine (awake_any _).mono ?_); rintro e w1 ⟨rfl, hb⟩; obtain ⟨Hb, hB⟩ := chain Hb hB hb; clear hb)
    | ((with_reducible refine (kF _ Hb.out).mono ?_); rintro e w2 ⟨rfl, rfl⟩)
    | ((with_reducible refine (kG _ Hb.out).mono ?_); rintro e w3 ⟨rfl, rfl⟩)
    | ((with_reducible refine (kN _).mono ?_); rintro e w4 ⟨b, rfl, d0, hb⟩; have hlo := hB; obtain ⟨Hb, hB⟩ := chain Hb hB hb; clear hb))
  clear kF kG kN
  go_loopw [15] (fun vi wr => ∃ (k : Nat) (S : Nat → Prop) (s : St), vi = .int .i64 k ∧ k ≤ la.length ∧ Ds S wr b s ∧ (∀ j, S j → w.heap.size ≤ j) ∧ Un n s ∧ s.waits.length ≤ k ∧ Below w.heap.size w wr) (fun vi _ => la.length - (intOf vi).toNat)
  case atStart => exact ⟨0, _, _, rfl, by omega, d0.1, fun j e => by have := e.1; omega, Un.fresh n, by simp [St.fresh], Hb.out⟩
  case round =>
    obtain ⟨k, S, s, rfl, hkl, hD, hS, hU, hws, hbw⟩ := hrel
    by_cases hlt : k < la.length
    · obtain ⟨a, hka⟩ : ∃ a, la[k]? = some a := ⟨la[k], List.getElem?_eq_getElem hlt⟩
      have hmem : a ∈ la := List.mem_of_getElem? hka
      have hlz : (k : Int) < (la.length : Int) := by omega
      obtain ⟨bb, o, rfl, hbb, _, c1w, c2w, _⟩ := act_cells hr hka
      have c1 : wr.drew.cell? ⟨bb, o + k * 4 + 1, none⟩ = _ := (hbw.cell (p := ⟨bb, _, none⟩) hbb).trans c1w
      have c2 : wr.drew.cell? ⟨bb, o + k * 4 + 2, none⟩ = _ := (hbw.cell (p := ⟨bb, _, none⟩) hbb).trans c2w
      have hra := (((hl a hmem).b.below hbw).more hbw.size).drew
      have kW := write_un (drewDs hD) hU a.at_ hra (in_bb (hl a hmem).b hS) (by omega)
      have hsz := hbw.size
      replace hbw := Lib.hid hbw
      clear c1w c2w hra
      go_wp2
      go_still_tail 11, (by kernel_rfl)
      change wpList _ _ _ _ _ wr.drew
      go_wp2_with ((with_reducible refine kW.mono ?_); rintro e v2 ⟨rfl, hD2, hk2⟩; have hb2 := hbw.out.trans ((drewKs hk2).below hS hbw.out.size); clear hbw kW)
      go_roundw
      case rel => exact ⟨k + 1, _, _, by simp, by omega, hD2, fun j e => by rcases e with e | e; exact hS j e; exact Nat.le_trans hsz e.1, hU.stB _ _, by unfold stB; split; simp [St.wrote]; omega; omega, hb2⟩
      case measure => simp [intOf]; omega
    · obtain rfl : k = la.length := by omega
      have hflw : s.waits.length ≤ 1000000 := by omega
      have kFl := flush_s hD (by rw [hU.count]; exact hU.dead) hflw
      rw [hU.count] at kFl
      have hsz1 := hbw.size
      replace hbw := Lib.hid hbw
      go_wp2_with ((with_reducible refine kFl.mono ?_); rintro e v1 ⟨rfl, hD1, hk1⟩; have hb1 := hbw.out.trans (hk1.below hS hsz1); clear hbw kFl)
      have hU1 := hU.flushed
      have hw1 : s.flushed.waits = [] := rfl
      generalize s.flushed = s1 at *
      have hok1 := hD1.ok
      have hszS := hD1.size
      have hnow1 : s1.now = s1.kept := by simp [St.now, hw1, puts]
      clear hD hU hws hk1 hflw
      go_loopw [16, 17] (fun wv vi wr => ∃ (k : Nat) (rows : List Rw), vi = .int .i64 k ∧ k ≤ n ∧ Was v1.heap.size wr wv (s1.now.take k) rows ∧ Below v1.heap.size v1 wr) (fun _ vi _ => n - (intOf vi).toNat)
      case atStart => exact ⟨0, [], rfl, by omega, ⟨World.ownsRow_nil _ _ _ _, fun r h => (by cases h), rfl⟩, Below.refl _ _⟩
      case round =>
        obtain ⟨k, rows, rfl, hkn, hwas, hbv⟩ := hrel
        have hrl : rows.length = k := by
          have := congrArg List.length hwas.what
          rw [List.length_map, List.length_take, St.nowLen, hU1.len] at this
          omega
        subst hrl
        by_cases hlt : rows.length < n
        · have hlz : (rows.length : Int) < (n : Int) := by omega
          have hh : s1.has (rows.length : Int) = true := St.has_iff.2 ⟨by omega, by rw [hU1.len]; omega⟩
          have hDv := hD1.below hbv
          have hsl := St.sect_len hok1 hh
          have hsg := St.sect_get hh
          rw [Int.toNat_natCast] at hsg
          obtain ⟨A3, c3, rfl, hrw⟩ := Rd.own hwas.row
          obtain ⟨i0, hi0, hz0, hz1, hz2⟩ := info_parts info_bytes
          go_wp2_with (first
            | ((with_reducible refine (read_s hDv (rows.length : Int) hh hU1.dead).mono ?_); rintro e v2 ⟨v, rfl, ho, hb2⟩; obtain ⟨g, cg, rfl, hg1, hg2⟩ := own_pos ho (by omega); have hrow2 := own_below hwas.row hb2)
            | (at_builtin; refine wpList_append_src _ rfl (.tmp 97) (.tmp 99) 53 53 rfl v1.heap.size 34 i0 (.slice none 0 0) 1 24 Try.underlying53 hi0 hz0 hz1 hz2 rfl (by decide) (.slice A3 rows.length c3) rows.length (rows.map rwCell) rfl (hrow2.alloc _) _ 1 [_] rfl (Src.ofSlice _ Try.underlying53 _ 1 1 _ rfl (cell_one_new _ _ _) (fun u hu => by simp at hu; subst hu; rfl)) (by simp only [maxLen]; omega) (by omega) (by simp; have := hbv.size; have := hb2.size; omega) ?_; intro wv' v3 hown3 hg3 hat3))
          have hbv3 : Below v1.heap.size v1 v3 := (((hbv.trans (hb2.mono hbv.size)).alloc (Nat.le_trans hbv.size hb2.size) _)).grown hg3 (by simp; have := hbv.size; have := hb2.size; omega) fun g e => (hrow2.lt g e).1
          exact ⟨⟨rows.length + 1, _, by simp, by omega, by rw [List.take_add_one, hsg]; exact hwas.more hb2 hbv.size hsl ho hown3 hg3, hbv3⟩, by simp [intOf]; omega⟩
        · have hrn : rows.length = n := by omega
          rw [hrn, show s1.now.take n = s1.kept from by rw [hnow1]; exact List.take_of_length_le (by rw [hU1.len]; exact Nat.le_refl _)] at hwas
          rw [hrn]
          clear hrn hkn hlt
          have hD2 := hD1.below hbv
          obtain ⟨i1, hi1, hy0, hy1, hy2⟩ := info_parts info_bool
          have hmk : ∀ (W : World) (m : Nat), m ≤ 100 → (Instr.makeSlice 35 (.int .i64 (m : Int)) (.int .i64 (m : Int))).run Try.prog W = .ok (.slice (some ⟨W.heap.size, 0, none⟩) m m) (W.alloc (.cells (madeCells #[.bool false] m) 4)) := fun W m hm => by
            have := run_make (P := Try.prog) W 35 4 i1 _ Try.underlying35 hi1 hy0 .i64 .i64 m m (by omega) (Int.le_refl _) (by rw [hy2]; omega) (by omega)
            rw [Int.toNat_natCast, hy1, Nat.mul_one] at this
            exact this
          have hmk1 := fun W => hmk W n (by omega)
          have hmk2 := fun W => hmk W lb.length (by omega)
          have hT1 := toList_madeCells_one (.bool false) n
          have hT1s := size_madeCells #[.bool false] n
          generalize madeCells #[.bool false] n = T1 at *
          have hT2 := toList_madeCells_one (.bool false) lb.length
          have hT2s := size_madeCells #[.bool false] lb.length
          generalize madeCells #[.bool false] lb.length = T2 at *
          clear hmk
          go_wp2
          have ht0 : (wr.alloc (.cells T1 4)).ownsRow wr.heap.size 4 1 (.slice (some ⟨wr.heap.size, 0, none⟩) n n) n ((List.replicate n false).map Value.bool) := by
            have := own_lit wr T1 4 n 1 wr.heap.size (by rw [hT1s]; omega) (by simp [maxLen]; omega) (Nat.le_refl _)
            rw [hT1] at this
            rw [List.map_replicate]
            exact this
          have hsz2 := hbv.size
          have hb1s := hb1.size
          have hbw2 := hb1.trans (hbv.mono hb1.size)
          have hbw3 : Below w.heap.size w (wr.alloc (.cells T1 4)) := hbw2.alloc (by omega) _
          have hD3 := hD2.alloc (.cells T1 4)
          have hwas3 := hwas.below ((Below.refl _ wr).alloc (Nat.le_refl _) (.cells T1 4))
          have hwasF : ∀ W : World, (∀ j, v1.heap.size ≤ j → j < wr.heap.size → W.heap[j]? = (wr.alloc (.cells T1 4)).heap[j]?) → Was v1.heap.size W u16 s1.kept rows := fun W hW =>
            hwas.same fun j h1 h2 => (hW j h1 h2).trans (Below.heap_alloc _ _ _ h2)
          have hsz3 : (wr.alloc (.cells T1 4)).heap.size = wr.heap.size + 1 := by simp
          generalize wr.alloc (.cells T1 4) = W3 at *
          generalize htb : wr.heap.size = tb at *
          clear hwas hD1 hD2 hbw2 hT1 hT1s hmk1
          go_loopw [21] (fun vi wq => ∃ (k : Nat) (S' : Nat → Prop) (s : St) (tl : List Bool), vi = .int .i64 k ∧ k ≤ lb.length ∧ Ds S' wq b s ∧ (∀ j, S' j → S j ∨ W3.heap.size ≤ j) ∧ Un n s ∧ s.kept = s1.kept ∧ s.waits.length ≤ k ∧ (∀ p ∈ s.waits, tl[p.1]? = some true) ∧ tl.length = n ∧ wq.ownsRow tb 4 1 (.slice (some ⟨tb, 0, none⟩) n n) n (tl.map Value.bool) ∧ (∀ j, v1.heap.size ≤ j → j < tb → wq.heap[j]? = W3.heap[j]?) ∧ W3.heap.size ≤ wq.heap.size ∧ Below w.heap.size w wq) (fun vi _ => lb.length - (intOf vi).toNat)
          case atStart => exact ⟨0, S, s1, List.replicate n false, rfl, by omega, hD3, fun j e => .inl e, hU1, rfl, by rw [hw1]; exact Nat.le_refl _, fun p hp => (by rw [hw1] at hp; cases hp), by simp, ht0, fun _ _ _ => rfl, Nat.le_refl _, hbw3⟩
          case round =>
            obtain ⟨k, S', s, tl, rfl, hkl, hD, hS', hU, hsk, hws, htl, htn, htr, hfr, hq3, hbq⟩ := hrel
            by_cases hlt3 : k < lb.length
            · obtain ⟨a, hka⟩ : ∃ a, lb[k]? = some a := ⟨lb[k], List.getElem?_eq_getElem hlt3⟩
              have hmem : a ∈ lb := List.mem_of_getElem? hka
              have hlz : (k : Int) < (lb.length : Int) := by omega
              obtain ⟨bb, o, rfl, hbb, _, c1w, c2w, _⟩ := act_cells hr2 hka
              have hSw : ∀ j, S' j → w.heap.size ≤ j := fun j e => by
                rcases hS' j e with e | e
                · exact hS j e
                · omega
              have c1 : wr.drew.cell? ⟨bb, o + k * 4 + 1, none⟩ = _ := (hbq.cell (p := ⟨bb, _, none⟩) hbb).trans c1w
              have c2 : wr.drew.cell? ⟨bb, o + k * 4 + 2, none⟩ = _ := (hbq.cell (p := ⟨bb, _, none⟩) hbb).trans c2w
              have hra := (((hl2 a hmem).b.below hbq).more hbq.size).drew
              have kW := write_un (drewDs hD) hU a.at_ hra (in_bb (hl2 a hmem).b hSw) (by omega)
              have hszq := hbq.size
              have hnS : ∀ j, v1.heap.size ≤ j → j ≤ tb → ¬ S' j := fun j h1 h2 e => by
                rcases hS' j e with e | e
                · have := hszS j e; omega
                · omega
              replace hbq := Lib.hid hbq
              cases ho : okB s a.at_ a.b with
              | false =>
                rw [ho] at kW
                have est : stB s a.at_ a.b = s := by rw [stB, if_neg (by rw [ho]; simp)]
                rw [est] at kW
                simp only [Bool.false_eq_true, if_false] at kW
                clear c1w c2w hra
                go_wp2
                go_still_tail 11, (by kernel_rfl)
                change wpList _ _ _ _ _ wr.drew
                go_wp2_with ((with_reducible refine kW.mono ?_); rintro e v2 ⟨rfl, hDn, hk2⟩; have hk3 := drewKs hk2; have hb2 := hbq.out.trans (hk3.below hSw hszq); have hs2 := hk3.size; have htr2 := own_same htr fun g e => hk3.block g (htr.lt g e).2 (by cases e; exact hnS tb hsz2 (Nat.le_refl _)); have hfr2 := fun j h1 h2 => (hk3.block j (by omega) (hnS j h1 (by omega))).trans (hfr j h1 h2); clear hbq kW hk2 hk3)
                go_roundw
                case rel => exact ⟨k + 1, _, s, tl, by simp, by omega, hDn, fun j e => by rcases e with e | e; exact hS' j e; exact .inr (Nat.le_trans hq3 e.1), hU, hsk, by omega, htl, htn, htr2, hfr2, by omega, hb2⟩
                case measure => simp [intOf]; omega
              | true =>
                rw [ho] at kW
                have est : stB s a.at_ a.b = s.wrote a.at_ a.b := by rw [stB, if_pos ho]
                rw [est] at kW
                simp only [if_true] at kW
                have hh2 : s.has a.at_ = true ∧ a.b.length ≤ 64 := by simpa [okB] using ho
                have hat := St.has_iff.1 hh2.1
                rw [hU.len] at hat
                obtain ⟨m, hm⟩ : ∃ m : Nat, a.at_ = (m : Int) := ⟨a.at_.toNat, by omega⟩
                rw [hm] at kW c1
                have c1' := fun (W : World) (hb : Below w.heap.size w W) => (hb.cell (p := ⟨bb, _, none⟩) hbb).trans c1w
                rw [hm] at c1'
                have hmn : m < n := by omega
                have hmz : (m : Int) < (n : Int) := by omega
                have htc := htr.cellAt m (by omega)
                rw [List.getElem?_map, List.getElem?_eq_getElem (by omega)] at htc
                have htf := htr.frozenAt m
                clear c1w c2w hra
                go_wp2
                go_still_tail 11, (by kernel_rfl)
                change wpList _ _ _ _ _ wr.drew
                go_wp2_with ((with_reducible refine kW.mono ?_); rintro e v2 ⟨rfl, hDn, hk2⟩; have hk3 := drewKs hk2; have hb2 := hbq.out.trans (hk3.below hSw hszq); have hs2 := hk3.size; have hbt := hk3.block tb (by omega) (hnS tb hsz2 (Nat.le_refl _)); have htr2 := own_same htr fun g e => hk3.block g (htr.lt g e).2 (by cases e; exact hnS tb hsz2 (Nat.le_refl _)); have hfr2 := fun j h1 h2 => (hk3.block j (by omega) (hnS j h1 (by omega))).trans (hfr j h1 h2); have c1n := c1' _ hb2; have tc := (World.cell?_of_block (a := ⟨tb, m, none⟩) hbt).trans htc; have tf := (World.frozen?_of_block (a := ⟨tb, m, none⟩) hbt).trans htf; clear hbq kW hk2 hk3 hbt htc htf c1')
                have hnt : ∀ j, Grow S' wr.drew v2 j → j ≠ tb := fun j e => by
                  rcases e with e | e
                  · intro e'; subst e'; exact hnS j hsz2 (Nat.le_refl _) e
                  · have h1 : wr.heap.size ≤ j := e.1
                    omega
                refine ⟨⟨k + 1, _, _, tl.set m true, rfl, by omega, hDn.same (by simp [World.setCell]) (fun j hj => Below.heap_setCell _ _ _ _ (hnt j hj)), fun j e => ?_, hU.wrote _ _, hsk, ?_, ?_, by simp [htn], ?_, fun j h1 h2 => (Below.heap_setCell _ _ _ _ (by show j ≠ tb; omega)).trans (hfr2 j h1 h2), by simp [World.setCell]; omega, hb2.setCell (by show w.heap.size ≤ tb; omega) _⟩, by simp [intOf]; omega⟩
                · rcases e with e | e
                  · exact hS' j e
                  · exact .inr (Nat.le_trans hq3 e.1)
                · simp [St.wrote]; omega
                · intro p hp
                  rcases List.mem_append.1 hp with hp | hp
                  · by_cases hpm : p.1 = m
                    · rw [hpm, List.getElem?_set_self (by omega)]
                    · rw [List.getElem?_set_ne (fun e => hpm e.symm)]; exact htl p hp
                  · simp at hp
                    subst hp
                    show (tl.set m true)[(m : Int).toNat]? = _
                    rw [Int.toNat_natCast, List.getElem?_set_self (by omega)]
                · have := (htr2.stored m (.bool true)).1
                  rw [List.map_set]
                  exact this
            · obtain rfl : k = lb.length := by omega
              have hszq := hbq.size
              have hwasw := hwasF wr hfr
              clear hwasF hwas3 hfr ht0 hD3
              rename World => V
              go_wp2
              have ha0 : (V.alloc (.cells T2 4)).ownsRow V.heap.size 4 1 (.slice (some ⟨V.heap.size, 0, none⟩) lb.length lb.length) lb.length ((List.replicate lb.length false).map Value.bool) := by
                have := own_lit V T2 4 lb.length 1 V.heap.size (by rw [hT2s]; omega) (by simp [maxLen]; omega) (Nat.le_refl _)
                rw [hT2] at this
                rw [List.map_replicate]
                exact this
              have hsz5 : (V.alloc (.cells T2 4)).heap.size = V.heap.size + 1 := by simp
              have hbA : Below V.heap.size V (V.alloc (.cells T2 4)) := (Below.refl _ _).alloc (Nat.le_refl _) _
              generalize V.alloc (.cells T2 4) = W5 at *
              go_loopw [24] (fun vi wq => ∃ (k : Nat) (al : List Bool), vi = .int .i64 k ∧ k ≤ lb.length ∧ al.length = lb.length ∧ (∀ j, j < k → al[j]? = some true) ∧ wq.ownsRow V.heap.size 4 1 (.slice (some ⟨V.heap.size, 0, none⟩) lb.length lb.length) lb.length (al.map Value.bool) ∧ Below V.heap.size V wq ∧ W5.heap.size ≤ wq.heap.size) (fun vi _ => lb.length - (intOf vi).toNat)
              case atStart => exact ⟨0, List.replicate lb.length false, rfl, by omega, by simp, fun j h => (by omega), ha0, hbA, Nat.le_refl _⟩
              case round =>
                obtain ⟨k, al, rfl, hkl, haln, hal, har, hba, hq5⟩ := hrel
                by_cases hlt4 : k < lb.length
                · have hlz : (k : Int) < (lb.length : Int) := by omega
                  have hac := har.cellAt k (by omega)
                  rw [List.getElem?_map, List.getElem?_eq_getElem (by omega)] at hac
                  have haf := har.frozenAt k
                  go_wp2
                  refine ⟨⟨k + 1, al.set k true, rfl, by omega, by simp [haln], fun j hj => ?_, ?_, hba.setCell (Nat.le_refl _) _, by simp [World.setCell]; omega⟩, by simp [intOf]; omega⟩
                  · by_cases hjk : j = k
                    · rw [hjk, List.getElem?_set_self (by omega)]
                    · rw [List.getElem?_set_ne (fun e => hjk e.symm)]; exact hal j (by omega)
                  · rw [List.map_set]
                    exact (har.stored k (.bool true)).1
                · obtain rfl : k = lb.length := by omega
                  have hDe := hD.below hba
                  have hwe := hwasw.below hba
                  have hte := own_below htr hba
                  have hbe := hbq.trans (hba.mono hszq)
                  have hbes := hbe.size
                  have hrn : rows.length = n := by
                    have := congrArg List.length hwe.what
                    rw [List.length_map, ← hsk, hU.len] at this
                    exact this
                  have hrow := hwe.row
                  rw [hrn] at hrow
                  obtain ⟨A3, c3, rfl, hrw⟩ := Rd.own hrow
                  obtain ⟨A6, c6, e6, hra⟩ := Rd.own har
                  cases e6
                  have hwl : s.waits.length ≤ 1000000 := by omega
                  have hally : ∀ j, j < s.waits.length → al.getD j false = true := fun j hj => by rw [List.getD_eq_getElem?_getD, hal j (by omega)]; rfl
                  have Hw := Lib.hid (Below.refl wr.heap.size wr)
                  have hBw : wr.heap.size ≤ wr.heap.size := Nat.le_refl _
                  have hkx := hk.below hbe
                  clear hal har hba hD hwasw htr hbq hrow ha0 hbA
                  go_wp2_with (first
                    | ((with_reducible refine (restart_n hDe hwl rfl hkx hbes).mono ?_); rintro e x1 ⟨bx, rfl, hX, hb⟩; have hD1 := hDe.below hb; obtain ⟨Hw, hBw⟩ := chain Hw hBw hb; clear hb hDe hkx)
                    | ((with_reducible refine (restart_n hD1 hwl haln (hra.below Hw.out) hBw).mono ?_); rintro e x2 ⟨by', rfl, hY, hb⟩; have hD2 := hD1.below hb; have hX2 := hX.below hb; obtain ⟨Hw, hBw⟩ := chain Hw hBw hb; clear hb hD1 hX)
                    | ((with_reducible refine (restart_0 hD2 hwl).mono ?_); rintro e x3 ⟨bz, rfl, hZ, hb⟩; have hD3 := hD2.below hb; have hX3 := hX2.below hb; have hY3 := hY.below hb; obtain ⟨Hw, hBw⟩ := chain Hw hBw hb; clear hb hD2 hX2 hY))
                  have hw3 := hwe.below Hw.out
                  have ht3 := own_below hte Hw.out
                  have hb3 := hbe.trans (Hw.out.mono hbes)
                  have hb3s := hb3.size
                  clear Hw hBw hra hrw hwe hte hbe
                  go_loopw [28] (fun vi wq => ∃ k : Nat, vi = .int .i64 k ∧ k ≤ n ∧ Below x3.heap.size x3 wq) (fun vi _ => n - (intOf vi).toNat)
                  case atStart => exact ⟨0, rfl, by omega, Below.refl _ _⟩
                  case round =>
                    obtain ⟨k, rfl, hkn, hbz⟩ := hrel
                    have hX := hX3.below hbz
                    have hY := hY3.below hbz
                    by_cases hlt5 : k < n
                    · have hlz : (k : Int) < (n : Int) := by omega
                      have hkk : k < s.kept.length := by rw [hU.len]; exact hlt5
                      have hZ := hZ.below hbz
                      have hD := hD3.below hbz
                      have hwz := hw3.below hbz
                      have htz := own_below ht3 hbz
                      have hhs : s.has (k : Int) = true := St.has_iff.2 ⟨by omega, by omega⟩
                      have htc := htz.cellAt k (by omega)
                      rw [List.getElem?_map, List.getElem?_eq_getElem (by omega)] at htc
                      obtain ⟨r, hrk⟩ : ∃ r, rows[k]? = some r := ⟨rows[k], List.getElem?_eq_getElem (by omega)⟩
                      have hmem := List.mem_of_getElem? hrk
                      have hrP : s.kept[k]?.getD [] = r.b := by rw [hsk, ← hwz.what, List.getElem?_map, hrk]; rfl
                      have heach := hwz.each r hmem
                      have hrow := hwz.row
                      rw [hrn] at hrow
                      obtain ⟨A7, c7, e7, hrw⟩ := Rd.own hrow
                      cases e7
                      obtain ⟨b7, o7, u7, rfl, hb7, hu7, c7w⟩ := hrw.get hlt5
                      rw [List.getElem?_map, hrk] at hu7
                      obtain rfl : rwCell r = u7 := by simpa using hu7
                      obtain ⟨A8, c8, e8, hr8⟩ := Rd.own heach
                      rw [rwCell] at c7w e8
                      have hrl64 : r.b.length = 64 := by simpa using (congrArg (fun v => match v with | .slice _ m _ => m | _ => 0) e8)
                      rw [hrl64] at c7w e8
                      cases e8
                      have hez := (re_none s k).trans hrP
                      have hey := re_all hally k
                      have hfar : tl[k] = false → (s.restart keep).sect (k : Int) = r.b := fun hf => (re_far (keep := keep) fun p hp e => by
                        have := htl p hp
                        rw [e, List.getElem?_eq_getElem (by omega), hf] at this
                        cases this).trans hrP
                      have hpx : ∃ px, (s.restart keep).sect (k : Int) = px := ⟨_, rfl⟩
                      obtain ⟨px, hpx⟩ := hpx
                      rw [hpx] at hfar
                      obtain ⟨qx, hqx⟩ : ∃ qx, s.sect (k : Int) = qx := ⟨_, rfl⟩
                      rw [hqx] at hey
                      have Hw := Lib.hid (Below.refl wr.heap.size wr)
                      have hBw : wr.heap.size ≤ wr.heap.size := Nat.le_refl _
                      have hbzs := hbz.size
                      have kx := fun W (hb : Below wr.heap.size wr W) => read_rs (hX.below hb) (k : Int) (re_has hkk) rfl _ hpx
                      have ky := fun W (hb : Below wr.heap.size wr W) => read_rs (hY.below hb) (k : Int) (re_has hkk) rfl _ hey
                      have kd := fun W (hb : Below wr.heap.size wr W) => read_rs (hD.below hb) (k : Int) hhs hU.dead _ hqx
                      have kz := fun W (hb : Below wr.heap.size wr W) => read_rs (hZ.below hb) (k : Int) (re_has hkk) rfl _ hez
                      replace hbz := Lib.hid hbz
                      have htbs : tb < wr.heap.size := (htz.lt tb rfl).2
                      clear hX hY hZ hD hwz htz heach hrow hrw hmem hfew hfew2
                      cases htk : tl[k] with
                      | true =>
                        rw [htk] at htc
                        go_wp2_with (first
                          | ((with_reducible refine (kx _ Hw.out).mono ?_); rintro e y1 ⟨g1, p1, rfl, r1, hb⟩; obtain ⟨Hw, hBw⟩ := chain Hw hBw hb; clear hb kx)
                          | ((with_reducible refine (ky _ Hw.out).mono ?_); rintro e y2 ⟨g2, p2, rfl, r2, hb⟩; obtain ⟨Hw, hBw⟩ := chain Hw hBw hb; have r1b := (r1.below hb).more hb.size; clear hb ky r1)
                          | ((with_reducible refine (kd _ Hw.out).mono ?_); rintro e y3 ⟨g3, p3, rfl, r3, hb⟩; obtain ⟨Hw, hBw⟩ := chain Hw hBw hb; have r1c := (r1b.below hb).more hb.size; have r2b := (r2.below hb).more hb.size; clear hb kd r1b r2)
                          | ((with_reducible refine (kz _ Hw.out).mono ?_); rintro e y4 ⟨g4, p4, rfl, r4, hb⟩; have q1 := ((r1c.below hb).more hb.size).convN; have q2 := ((r2b.below hb).more hb.size).convN; have q3 := ((r3.below hb).more hb.size).convN; have q4 := r4.convN; obtain ⟨Hw, hBw⟩ := chain Hw hBw hb; have qw := (hr8.below Hw.out).convN; have cw := (Hw.out.cell (p := ⟨b7, _, none⟩) hb7).trans c7w; have ct := (Hw.out.cell (p := ⟨tb, _, none⟩) htbs).trans htc; clear hb kz r1c r2b r3 r4 hr8))
                        go_quiet (fail)
                        go_wp2
                        have hbf := hbz.out.trans (Hw.out.mono hbzs)
                        exact ⟨⟨k + 1, rfl, by omega, ⟨hbf.os, hbf.tape, hbf.output, hbf.size, hbf.block⟩⟩, by simp [intOf]; omega⟩
                      | false =>
                        rw [htk] at htc
                        have hpr := hfar htk
                        subst hpr
                        go_wp2_with (first
                          | ((with_reducible refine (kx _ Hw.out).mono ?_); rintro e y1 ⟨g1, p1, rfl, r1, hb⟩; obtain ⟨Hw, hBw⟩ := chain Hw hBw hb; clear hb kx)
                          | ((with_reducible refine (ky _ Hw.out).mono ?_); rintro e y2 ⟨g2, p2, rfl, r2, hb⟩; obtain ⟨Hw, hBw⟩ := chain Hw hBw hb; have r1b := (r1.below hb).more hb.size; clear hb ky r1)
                          | ((with_reducible refine (kd _ Hw.out).mono ?_); rintro e y3 ⟨g3, p3, rfl, r3, hb⟩; obtain ⟨Hw, hBw⟩ := chain Hw hBw hb; have r1c := (r1b.below hb).more hb.size; have r2b := (r2.below hb).more hb.size; clear hb kd r1b r2)
                          | ((with_reducible refine (kz _ Hw.out).mono ?_); rintro e y4 ⟨g4, p4, rfl, r4, hb⟩; have q1 := ((r1c.below hb).more hb.size).convN; have q2 := ((r2b.below hb).more hb.size).convN; have q3 := ((r3.below hb).more hb.size).convN; have q4 := r4.convN; obtain ⟨Hw, hBw⟩ := chain Hw hBw hb; have qw := (hr8.below Hw.out).convN; have cw := (Hw.out.cell (p := ⟨b7, _, none⟩) hb7).trans c7w; have ct := (Hw.out.cell (p := ⟨tb, _, none⟩) htbs).trans htc; clear hb kz r1c r2b r3 r4 hr8))
                        go_quiet (fail)
                        go_wp2
                        have hbf := hbz.out.trans (Hw.out.mono hbzs)
                        exact ⟨⟨k + 1, rfl, by omega, ⟨hbf.os, hbf.tape, hbf.output, hbf.size, hbf.block⟩⟩, by simp [intOf]; omega⟩
                    · obtain rfl : k = n := by omega
                      replace hbz := Lib.hid hbz
                      go_wp2_with (first
                        | ((with_reducible refine (wait0 hX).mono ?_); rintro e z1 ⟨rfl, rfl⟩)
                        | ((with_reducible refine (wait0 hY).mono ?_); rintro e z1 ⟨rfl, rfl⟩))
                      go_ret
                      exact ⟨rfl, hb3.trans (hbz.out.mono hb3s)⟩
theorem deviceKeeps_walk (x0 : Int) (A1 : Option Addr) (c1 : Nat) (l1 : List Ac) (A2 : Option Addr) (c2 : Nat) (l2 : List Ac) (A3 : Option Addr) (c3 : Nat) (l3 : List Bool) (w : World) (f0 : (Lit.int .u8 x0).wf = true) (r1 : Rd w w.heap.size 4 A1 l1.length c1 (l1.flatMap acCells)) (f1 : ∀ a ∈ l1, AcOk w a) (r2 : Rd w w.heap.size 4 A2 l2.length c2 (l2.flatMap acCells)) (f2 : ∀ a ∈ l2, AcOk w a) (r3 : Rd w w.heap.size 1 A3 l3.length c3 (l3.map Value.bool)) :
    Calls Try.prog 4 #[.int .u8 x0, .slice A1 l1.length c1, .slice A2 l2.length c2, .slice A3 l3.length c3] w fun e w' => e = .returned (.bool true) ∧ Below w.heap.size w w' := keeps_walk w x0 (wf_u8 f0) r1 f1 r2 f2 r3
end Go.Proofs.Ytiehnimkjneonaa
