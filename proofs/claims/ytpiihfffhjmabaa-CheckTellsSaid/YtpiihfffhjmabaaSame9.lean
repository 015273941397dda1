/- Layer 9: the document's own values, read as a schema; its own comparison says true of what says the same. Conditions: none. -/
import Derived.BigQuiet
import Derived.Deep.QuietTactic
import Derived.Test.YtpiihfffhjmabaaOf9
import Derived.Test.YtpiihfffhjmabaaLeadW
namespace Go.Proofs.Ytpiihfffhjmabaa
open Go.RowKit

/-- What bounds a relation's names and lists. -/
structure SmJ (R : Nat) (x : RelI) : Prop where
  name : x.name.size ≤ R
  view : x.view.size ≤ R
  edit : x.edit.size ≤ R
  check : x.check.size ≤ R
  subn : x.subs.length * 32 ≤ R
  subs : ∀ s ∈ x.subs, s.1.size ≤ R ∧ s.2.size ≤ R
  opn : x.ops.length * 40 ≤ R
  ops : ∀ o ∈ x.ops, (Lit.int .i64 o.1).wf = true ∧ o.2.1.size ≤ R ∧ o.2.2.size ≤ R
theorem RelA.ok.smj {w : World} {R : Nat} {a : RelA} (h : a.ok w R) : SmJ R a.says := ⟨h.name, h.view, h.edit, h.check, h.subn, h.subz, h.opn, h.opz⟩
theorem drels_conv {w : World} {B R : Nat} : ∀ (l : List RelI) (xs : List Value), DRelsC w B l xs → (∀ x ∈ l, SmJ R x) → ∃ k : List RelA, xs = k.flatMap RelA.cells ∧ k.map RelA.says = l ∧ ∀ a ∈ k, a.ok w R
  | [], xs, h, _ => by
    have e : xs = [] := h
    exact ⟨[], e, rfl, fun a ha => by cases ha⟩
  | x :: l, xs, h, hz => by
    obtain ⟨ys, zs, rfl, ⟨vs, vo, rfl, hs, ho⟩, hr⟩ := h
    obtain ⟨k, rfl, hk, hok⟩ := drels_conv l zs hr fun y hy => hz y (List.mem_cons_of_mem _ hy)
    obtain ⟨As, cs, rfl, rs⟩ := Rd.own hs
    obtain ⟨Ao, co, rfl, ro⟩ := Rd.own ho
    have z := hz x List.mem_cons_self
    refine ⟨⟨x.name, x.view, x.edit, x.check, As, cs, x.subs, Ao, co, x.ops⟩ :: k, ?_, ?_, fun a ha => ?_⟩
    · rw [List.flatMap_cons]
      rfl
    · rw [List.map_cons, hk]
      rfl
    · rcases List.mem_cons.1 ha with rfl | ha
      · exact ⟨z.name, z.view, z.edit, z.check, rs, z.subn, z.subs, ro, z.opn, z.ops⟩
      · exact hok a ha
theorem dtypes_conv {w : World} {B R : Nat} : ∀ (l : List TypI) (xs : List Value), DTypsC w B l xs → (∀ t ∈ l, t.name.size ≤ R ∧ t.rels.length * 112 ≤ R ∧ ∀ x ∈ t.rels, SmJ R x) → ∃ k : List TypA, xs = k.flatMap TypA.cells ∧ k.map TypA.says = l ∧ ∀ a ∈ k, a.ok w R
  | [], xs, h, _ => by
    have e : xs = [] := h
    exact ⟨[], e, rfl, fun a ha => by cases ha⟩
  | t :: l, xs, h, hz => by
    obtain ⟨ys, zs, rfl, ⟨vr, rfl, ws, hrow, hrc⟩, hr⟩ := h
    obtain ⟨k, rfl, hk, hok⟩ := dtypes_conv l zs hr fun y hy => hz y (List.mem_cons_of_mem _ hy)
    have z := hz t List.mem_cons_self
    obtain ⟨m, rfl, hm, hmo⟩ := drels_conv t.rels ws hrc z.2.2
    obtain ⟨A, c, rfl, rr⟩ := Rd.own hrow
    have hl : m.length = t.rels.length := by have := congrArg List.length hm; rwa [List.length_map] at this
    refine ⟨⟨t.name, A, c, m⟩ :: k, ?_, ?_, fun a ha => ?_⟩
    · rw [List.flatMap_cons]
      show _ = [Value.string t.name, .slice A m.length c] ++ _
      rw [hl]
    · rw [List.map_cons, hk]
      show TypI.mk t.name (m.map RelA.says) :: _ = _
      rw [hm]
    · rcases List.mem_cons.1 ha with rfl | ha
      · exact ⟨z.1, by show Rd w w.heap.size 6 A m.length c _; rw [hl]; exact rr, by show m.length * 112 ≤ R; rw [hl]; exact z.2.1, hmo⟩
      · exact hok a ha
/-- What was made of a schema, read as one: it says the same. -/
theorem DVTyps.sch {w w0 : World} {B R : Nat} {A0 : Option Addr} {c0 : Nat} {l0 : List TypA} {v : Value} (h : DVTyps B w v (l0.map TypA.says)) (h0 : SchA w0 R A0 c0 l0) : ∃ (A : Option Addr) (c : Nat) (l : List TypA), v = .slice A l.length c ∧ l.map TypA.says = l0.map TypA.says ∧ SchA w R A c l := by
  obtain ⟨xs, h1, h2⟩ := h
  obtain ⟨l, rfl, hs, ho⟩ := dtypes_conv (R := R) _ xs h2 (fun t ht => by
    obtain ⟨a, ha, rfl⟩ := List.mem_map.1 ht
    have z := h0.each a ha
    refine ⟨z.name, ?_, fun x hx => ?_⟩
    · show (a.rels.map RelA.says).length * 112 ≤ R
      rw [List.length_map]
      exact z.reln
    · obtain ⟨b, hb, rfl⟩ := List.mem_map.1 (show x ∈ a.rels.map RelA.says from hx)
      exact (z.relz b hb).smj)
  obtain ⟨A, c, rfl, rd⟩ := Rd.own h1
  have hl : l.length = l0.length := by have := congrArg List.length hs; rwa [List.length_map, List.length_map] at this
  rw [List.length_map, ← hl] at rd
  refine ⟨A, c, l, by rw [List.length_map, hl], hs, rd, ?_, ho⟩
  rw [hl]
  exact h0.few

theorem says_atT {la lb : List TypA} (e : la.map TypA.says = lb.map TypA.says) {i : Nat} {a : TypA} (h : la[i]? = some a) : ∃ b, lb[i]? = some b ∧ b.name = a.name ∧ b.rels.length = a.rels.length ∧ a.rels.map RelA.says = b.rels.map RelA.says := by
  have k : (la.map TypA.says)[i]? = (lb.map TypA.says)[i]? := by rw [e]
  rw [List.getElem?_map, List.getElem?_map, h] at k
  cases hb : lb[i]? with
  | none => rw [hb] at k; cases k
  | some b =>
    rw [hb] at k
    have k2 : TypI.mk a.name (a.rels.map RelA.says) = TypI.mk b.name (b.rels.map RelA.says) := Option.some.inj k
    injection k2 with e1 e2
    refine ⟨b, rfl, e1.symm, ?_, e2⟩
    have := congrArg List.length e2
    rw [List.length_map, List.length_map] at this
    exact this.symm
theorem says_atR {la lb : List RelA} (e : la.map RelA.says = lb.map RelA.says) {i : Nat} {a : RelA} (h : la[i]? = some a) : ∃ b, lb[i]? = some b ∧ b.name = a.name ∧ b.view = a.view ∧ b.edit = a.edit ∧ b.check = a.check ∧ b.subs = a.subs ∧ b.ops = a.ops := by
  have k : (la.map RelA.says)[i]? = (lb.map RelA.says)[i]? := by rw [e]
  rw [List.getElem?_map, List.getElem?_map, h] at k
  cases hb : lb[i]? with
  | none => rw [hb] at k; cases k
  | some b =>
    rw [hb] at k
    have k2 : RelI.mk a.name a.view a.edit a.check a.subs a.ops = RelI.mk b.name b.view b.edit b.check b.subs b.ops := Option.some.inj k
    injection k2 with e1 e2 e3 e4 e5 e6
    exact ⟨b, rfl, e1.symm, e2.symm, e3.symm, e4.symm, e5.symm, e6.symm⟩
/-- A slice of operations. -/
structure OpsA (w : World) (A : Option Addr) (c : Nat) (l : List OpI) : Prop where
  rows : Rd w w.heap.size 3 A l.length c (l.flatMap aOp)
theorem OpsA.up {w w' : World} {A : Option Addr} {c : Nat} {l : List OpI} (h : OpsA w A c l) (hb : Below w.heap.size w w') : OpsA w' A c l := ⟨h.rows.up hb⟩
theorem OpsA.get {w : World} {A : Option Addr} {c : Nat} {l : List OpI} (h : OpsA w A c l) {i : Nat} {o : OpI} (hi : l[i]? = some o) :
    ∃ b k, A = some ⟨b, k, none⟩ ∧ w.cell? ⟨b, k + i * 3, none⟩ = some (.int .i64 o.1) ∧ w.cell? ⟨b, k + i * 3 + 1, none⟩ = some (.string o.2.1) ∧ w.cell? ⟨b, k + i * 3 + 2, none⟩ = some (.string o.2.2) := by
  obtain ⟨b, k, e, _, hc⟩ := h.rows.at_ (lt_get hi)
  have g := fun j (hj : j < 3) => flat_get aOp (sz := 3) (fun _ => rfl) hi (k := j) hj
  exact ⟨b, k, e, hc _ _ (g 0 (by omega)), hc _ _ (g 1 (by omega)), hc _ _ (g 2 (by omega))⟩

set_option maxRecDepth 100000 in
set_option maxHeartbeats 4000000 in
theorem sameOps9_any {w : World} {A A2 : Option Addr} {c c2 : Nat} {l : List OpI} (ha : OpsA w A c l) (hb : OpsA w A2 c2 l) :
    Calls Try.prog 25 #[.slice A l.length c, .slice A2 l.length c2] w fun e w' => e = .returned (.bool true) ∧ Below w.heap.size w w' := by
  have hll : (l.length : Int) ≤ 9223372036854775807 := by have := ha.rows.cap; have := ha.rows.capm; simp only [maxLen] at this; omega
  go_enter Try.func25, Try.ntmps25
  go_wp2_with fail
  go_loopw [5] (fun vi wx => ∃ i : Nat, vi = .int .i64 i ∧ i ≤ l.length ∧ Below w.heap.size w wx) (fun vi _ => l.length - (intOf vi).toNat)
  case atStart => exact ⟨0, rfl, Nat.zero_le _, Below.refl _ _⟩
  case round =>
    obtain ⟨i, rfl, hi, hbx⟩ := hrel
    by_cases hil : i < l.length
    · have hdi : (i : Int) < (l.length : Nat) := by omega
      obtain ⟨o, ho⟩ : ∃ o, l[i]? = some o := ⟨l[i], List.getElem?_eq_getElem hil⟩
      obtain ⟨g, k, rfl, o0, o1, o2⟩ := (ha.up hbx).get ho
      obtain ⟨g2, k2, rfl, q0, q1, q2⟩ := (hb.up hbx).get ho
      go_wp2
      go_quiet (fail)
      go_wp2
      refine ⟨⟨i + 1, by go_num, by omega, hbx.trans ⟨rfl, rfl, rfl, Nat.le_refl _, fun _ _ => rfl⟩⟩, ?_⟩
      simp [intOf]; omega
    · have hdi : ¬ ((i : Int) < (l.length : Nat)) := by omega
      go_wp2
      go_ret
      exact ⟨rfl, hbx⟩
set_option maxRecDepth 100000 in
set_option maxHeartbeats 4000000 in
theorem same9_any {w : World} {R R2 : Nat} {A A2 : Option Addr} {c c2 : Nat} {la lb : List TypA} (ha : SchA w R A c la) (hb : SchA w R2 A2 c2 lb) (he : la.map TypA.says = lb.map TypA.says) :
    Calls Try.prog 16 #[.slice A la.length c, .slice A2 lb.length c2] w fun e w' => e = .returned (.bool true) ∧ Below w.heap.size w w' := by
  have hll : (la.length : Int) ≤ 9223372036854775807 := by have := ha.rows.cap; have := ha.rows.capm; simp only [maxLen] at this; omega
  have hle : lb.length = la.length := by have := congrArg List.length he; rw [List.length_map, List.length_map] at this; exact this.symm
  have HT := Lib.hid (fun (i : Nat) (a : TypA) (h : la[i]? = some a) => says_atT he h)
  rw [hle]
  clear hle he
  go_enter Try.func16, Try.ntmps16
  go_wp2_with fail
  go_loopw [5] (fun vi wx => ∃ i : Nat, vi = .int .i64 i ∧ i ≤ la.length ∧ Below w.heap.size w wx) (fun vi _ => la.length - (intOf vi).toNat)
  case atStart => exact ⟨0, rfl, Nat.zero_le _, Below.refl _ _⟩
  case round =>
    obtain ⟨i, rfl, hi, hbx⟩ := hrel
    by_cases hil : i < la.length
    · have hdi : (i : Int) < (la.length : Nat) := by omega
      obtain ⟨t, ht⟩ : ∃ t, la[i]? = some t := ⟨la[i], List.getElem?_eq_getElem hil⟩
      obtain ⟨u, hu, en, el, er⟩ := HT.out i t ht
      obtain ⟨g, o, rfl, g0, g1, hkt⟩ := (ha.up hbx).get ht
      obtain ⟨g2, o2, rfl, k0, k1, hku⟩ := (hb.up hbx).get hu
      rw [en] at k0
      rw [el] at k1
      have HR := Lib.hid (fun (i : Nat) (a : RelA) (h : t.rels[i]? = some a) => says_atR er h)
      have hlr : (t.rels.length : Int) ≤ 9223372036854775807 := by have := hkt.rels.cap; have := hkt.rels.capm; simp only [maxLen] at this; omega
      clear en el er hu
      obtain ⟨tA, htA⟩ : ∃ B, t.A = B := ⟨_, rfl⟩
      obtain ⟨uA, huA⟩ : ∃ B, u.A = B := ⟨_, rfl⟩
      rw [htA] at g1
      rw [huA] at k1
      have lg := World.block_lt_of_cell? _ _ g0
      have lk := World.block_lt_of_cell? _ _ k0
      dsimp only at lg lk
      go_wp2
      go_quiet (fail)
      go_wp2
      have hbq : Below wr.heap.size wr (wr.drewN nq) := ⟨rfl, rfl, rfl, Nat.le_refl _, fun _ _ => rfl⟩
      replace hbx := hbx.trans (hbq.mono hbx.size)
      replace hkt := hkt.up hbq
      replace hku := hku.up hbq
      replace g1 := cell_under g1 hbq
      replace k1 := cell_under k1 hbq
      clear hbq g0 k0 lg lk
      generalize wr.drewN nq = wx at *
      go_loopw [6] (fun vk wy => ∃ k : Nat, vk = .int .i64 k ∧ k ≤ t.rels.length ∧ Below wx.heap.size wx wy) (fun vk _ => t.rels.length - (intOf vk).toNat)
      case atStart => exact ⟨0, rfl, Nat.zero_le _, Below.refl _ _⟩
      case round =>
        obtain ⟨k, rfl, hk, hby⟩ := hrel
        have u1 := cell_under g1 hby
        have u2 := cell_under k1 hby
        have lu1 := World.block_lt_of_cell? _ _ u1
        have lu2 := World.block_lt_of_cell? _ _ u2
        dsimp only at lu1 lu2
        by_cases hkl : k < t.rels.length
        · have hdk : (k : Int) < (t.rels.length : Nat) := by omega
          obtain ⟨x, hx⟩ : ∃ x, t.rels[k]? = some x := ⟨t.rels[k], List.getElem?_eq_getElem hkl⟩
          obtain ⟨y, hy, e0, e1, e2, e3, e4, e5⟩ := HR.out k x hx
          obtain ⟨gr, og, eA, r0, r1, r2, r3, r4, r5, hkx⟩ := (hkt.up hby).get hx
          rw [htA] at eA
          subst eA
          obtain ⟨gr2, og2, eA, v0, v1, v2, v3, v4, v5, hky⟩ := (hku.up hby).get hy
          rw [huA] at eA
          subst eA
          rw [e0] at v0
          rw [e1] at v1
          rw [e2] at v2
          rw [e3] at v3
          rw [e4] at v4
          rw [e5] at v5
          have ho : OpsA wr x.Ao x.co x.ops := ⟨hkx.ops⟩
          have ho2 : OpsA wr y.Ao y.co x.ops := ⟨by have := hky.ops; rwa [e5] at this⟩
          have hs : SubsA wr x.As x.cs x.subs := ⟨hkx.subs⟩
          have hs2 : SubsA wr y.As y.cs x.subs := ⟨by have := hky.subs; rwa [e4] at this⟩
          clear e0 e1 e2 e3 e4 e5 hky hy
          generalize y.As = As2 at *
          generalize y.cs = cs2 at *
          generalize y.Ao = Ao2 at *
          generalize y.co = co2 at *
          obtain ⟨As1, hAs⟩ : ∃ B, x.As = B := ⟨_, rfl⟩
          obtain ⟨Ao1, hAo⟩ : ∃ B, x.Ao = B := ⟨_, rfl⟩
          rw [hAs] at r4 hs
          rw [hAo] at r5 ho
          have hls : (x.subs.length : Int) ≤ 9223372036854775807 := by have := hs.rows.cap; have := hs.rows.capm; simp only [maxLen] at this; omega
          have lr1 := World.block_lt_of_cell? _ _ r0
          have lr2 := World.block_lt_of_cell? _ _ v0
          dsimp only at lr1 lr2
          go_wp2_with fail
          have hX0 := (Bk.new wr #[.string x.name, .string x.view, .string x.edit, .string x.check, .slice As1 x.subs.length x.cs, .slice Ao1 x.ops.length x.co] 50).alloc (.cells #[.string x.name, .string x.view, .string x.edit, .string x.check, .slice As2 x.subs.length cs2, .slice Ao2 x.ops.length co2] 50)
          have hY0 := Bk.new2 wr (.cells #[.string x.name, .string x.view, .string x.edit, .string x.check, .slice As1 x.subs.length x.cs, .slice Ao1 x.ops.length x.co] 50) #[.string x.name, .string x.view, .string x.edit, .string x.check, .slice As2 x.subs.length cs2, .slice Ao2 x.ops.length co2] 50
          have hbz0 : Below wr.heap.size wr ((wr.alloc (.cells #[.string x.name, .string x.view, .string x.edit, .string x.check, .slice As1 x.subs.length x.cs, .slice Ao1 x.ops.length x.co] 50)).alloc (.cells #[.string x.name, .string x.view, .string x.edit, .string x.check, .slice As2 x.subs.length cs2, .slice Ao2 x.ops.length co2] 50)) := ((Below.refl _ wr).alloc (Nat.le_refl _) _).alloc (size_alloc (Nat.le_refl _)) _
          replace ho := ho.up hbz0
          replace ho2 := ho2.up hbz0
          replace hs := hs.up hbz0
          replace hs2 := hs2.up hbz0
          generalize (wr.alloc (.cells #[.string x.name, .string x.view, .string x.edit, .string x.check, .slice As1 x.subs.length x.cs, .slice Ao1 x.ops.length x.co] 50)).alloc (.cells #[.string x.name, .string x.view, .string x.edit, .string x.check, .slice As2 x.subs.length cs2, .slice Ao2 x.ops.length co2] 50) = wz0 at *
          refine (sameOps9_any ho ho2).mono ?_
          rintro e w5 ⟨rfl, hb5⟩
          have hX := hX0.below hb5
          have hY := hY0.below hb5
          have hbz := hbz0.trans (hb5.mono hbz0.size)
          replace hs := hs.up hb5
          replace hs2 := hs2.up hb5
          obtain ⟨p0, p1, p2, p3, p4, p5⟩ := hX.c6
          obtain ⟨q0, q1, q2, q3, q4, q5⟩ := hY.c6
          have lX := hX.lt
          have lY := hY.lt
          clear hX0 hY0 hbz0 hb5 ho ho2 r0 r1 r2 r3 r4 r5 v0 v1 v2 v3 v4 v5 lr1 lr2
          go_wp2_with fail
          clear p0 p1 p2 p3 q0 q1 q2 q3 p4 q4 p5 q5
          go_loopw [10] (fun vj wz => ∃ j : Nat, vj = .int .i64 j ∧ j ≤ x.subs.length ∧ Below w5.heap.size w5 wz) (fun vj _ => x.subs.length - (intOf vj).toNat)
          case atStart => exact ⟨0, rfl, Nat.zero_le _, Below.refl _ _⟩
          case round =>
            obtain ⟨j, rfl, hj, hb6⟩ := hrel
            have hXz := hX.below hb6
            have hYz := hY.below hb6
            have p4 : World.cell? _ ⟨_, 4, none⟩ = some (.slice As1 x.subs.length x.cs) := hXz.cell 4
            have q4 : World.cell? _ ⟨_, 4, none⟩ = some (.slice As2 x.subs.length cs2) := hYz.cell 4
            have lXz := hXz.lt
            have lYz := hYz.lt
            by_cases hjl : j < x.subs.length
            · have hdj : (j : Int) < (x.subs.length : Nat) := by omega
              obtain ⟨o3, hoj⟩ : ∃ o, x.subs[j]? = some o := ⟨x.subs[j], List.getElem?_eq_getElem hjl⟩
              obtain ⟨gs, os, rfl, o0, o1⟩ := (hs.up hb6).get hoj
              obtain ⟨gs2, os2, rfl, m0, m1⟩ := (hs2.up hb6).get hoj
              go_wp2
              go_quiet (fail)
              go_wp2
              refine ⟨⟨j + 1, by go_num, by omega, hb6.trans ⟨rfl, rfl, rfl, Nat.le_refl _, fun _ _ => rfl⟩⟩, ?_⟩
              simp [intOf]; omega
            · have hdj : ¬ ((j : Int) < (x.subs.length : Nat)) := by omega
              go_wp2
              refine ⟨⟨k + 1, by go_num, by omega, (hby.trans (hbz.mono hby.size)).trans (hb6.mono (Nat.le_trans hby.size hbz.size))⟩, ?_⟩
              simp [intOf]; omega
        · have hdk : ¬ ((k : Int) < (t.rels.length : Nat)) := by omega
          go_wp2_with fail
          refine ⟨⟨i + 1, by go_num, by omega, hbx.trans (hby.mono hbx.size)⟩, ?_⟩
          simp [intOf]; omega
    · have hdi : ¬ ((i : Int) < (la.length : Nat)) := by omega
      go_wp2
      go_ret
      exact ⟨rfl, hbx⟩
end Go.Proofs.Ytpiihfffhjmabaa
