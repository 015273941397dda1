/- Layer 7: a relation, read. Conditions: none. -/
import Derived.Test.YtinfbimfiaegdaaOps7
namespace Go.Proofs.Ytinfbimfiaegdaa
open Go.RowKit

/-- A relation, as memory holds it. -/
def VRel (B : Nat) (w : World) (v : Value) (x : RelP) : Prop := ∃ vs vo, v = .agg #[.string x.name, .string x.view, .string x.edit, .string x.check, vs, vo] ∧ VSubs B w vs x.subs ∧ VOps B w vo x.ops
section
variable {w : World} {g : Nat} {l : List Tk}
theorem Bk.set {w : World} {b : Nat} {cs : Array Value} {t : TypeId} (h : Bk w b cs t) (i : Nat) (v : Value) : Bk (w.setCell ⟨b, i, none⟩ v) b (cs.setIfInBounds i v) t := by
  unfold Bk at *
  simp [World.setCell, Array.getElem?_modify, h]
theorem Bk.other {w : World} {b : Nat} {cs : Array Value} {t : TypeId} (h : Bk w b cs t) {a : Addr} (ha : b ≠ a.block) (v : Value) : Bk (w.setCell a v) b cs t := (Below.heap_setCell _ _ _ _ ha).trans h
theorem own_set {w : World} {base : Nat} {e : TypeId} {size n : Nat} {v : Value} {xs : List Value} (h : w.ownsRow base e size v n xs) {a : Addr} (ha : a.block < base) (u : Value) : (w.setCell a u).ownsRow base e size v n xs :=
  own_same h fun k hk => Below.heap_setCell _ _ _ _ (by have := (h.lt k hk).1; omega)
set_option maxRecDepth 100000 in
set_option maxHeartbeats 2000000 in
theorem relation_any (h : Rdr w g l) : Calls Try.prog 67 #[.pointer (some ⟨g, 0, none⟩)] w (Post (VRel w.heap.size) w.heap.size w g (relR l)) := by
  suffices HH : ∀ R, To (Post (VRel w.heap.size) w.heap.size w g (relR l)) R → Calls Try.prog 67 #[.pointer (some ⟨g, 0, none⟩)] w R from HH _ fun _ _ h => h
  intro R HP
  have hg := h.size
  unfold relR at HP
  go_enter Try.func67, Try.ntmps67
  go_wp2_with fail
  have hb0 := (Bk.new w #[.string ⟨#[]⟩, .string ⟨#[]⟩, .string ⟨#[]⟩, .string ⟨#[]⟩, .slice none 0 0, .slice none 0 0] 63).alloc (.cells #[.string ⟨#[]⟩, .string ⟨#[]⟩, .string ⟨#[]⟩, .string ⟨#[]⟩, .slice none 0 0, .slice none 0 0] 63)
  have hb1 : Bk ((w.alloc (.cells #[.string ⟨#[]⟩, .string ⟨#[]⟩, .string ⟨#[]⟩, .string ⟨#[]⟩, .slice none 0 0, .slice none 0 0] 63)).alloc (.cells #[.string ⟨#[]⟩, .string ⟨#[]⟩, .string ⟨#[]⟩, .string ⟨#[]⟩, .slice none 0 0, .slice none 0 0] 63)) (w.heap.size + 1) #[.string ⟨#[]⟩, .string ⟨#[]⟩, .string ⟨#[]⟩, .string ⟨#[]⟩, .slice none 0 0, .slice none 0 0] 63 := by have := Bk.new (w.alloc (.cells #[.string ⟨#[]⟩, .string ⟨#[]⟩, .string ⟨#[]⟩, .string ⟨#[]⟩, .slice none 0 0, .slice none 0 0] 63)) #[.string ⟨#[]⟩, .string ⟨#[]⟩, .string ⟨#[]⟩, .string ⟨#[]⟩, .slice none 0 0, .slice none 0 0] 63; rwa [World.size_alloc] at this
  have hR := (h.alloc (.cells #[.string ⟨#[]⟩, .string ⟨#[]⟩, .string ⟨#[]⟩, .string ⟨#[]⟩, .slice none 0 0, .slice none 0 0] 63)).alloc (.cells #[.string ⟨#[]⟩, .string ⟨#[]⟩, .string ⟨#[]⟩, .string ⟨#[]⟩, .slice none 0 0, .slice none 0 0] 63)
  have hK : Kp g w.heap.size w _ := ((Kp.refl g _ w).alloc (Nat.le_refl _) (.cells #[.string ⟨#[]⟩, .string ⟨#[]⟩, .string ⟨#[]⟩, .string ⟨#[]⟩, .slice none 0 0, .slice none 0 0] 63)).alloc (size_alloc (Nat.le_refl _)) (.cells #[.string ⟨#[]⟩, .string ⟨#[]⟩, .string ⟨#[]⟩, .string ⟨#[]⟩, .slice none 0 0, .slice none 0 0] 63)
  clear h
  generalize (w.alloc (.cells #[.string ⟨#[]⟩, .string ⟨#[]⟩, .string ⟨#[]⟩, .string ⟨#[]⟩, .slice none 0 0, .slice none 0 0] 63)).alloc (.cells #[.string ⟨#[]⟩, .string ⟨#[]⟩, .string ⟨#[]⟩, .string ⟨#[]⟩, .slice none 0 0, .slice none 0 0] 63) = W at *
  generalize w.heap.size = B at *
  refine (must_any hR ask_rel).mono ?_
  intro e W1 hp
  obtain ⟨hk, hc⟩ := hp.cases_
  have hz := Nat.le_of_lt hb0.lt
  have hlt := hb1.lt
  replace hK := hK.trans (hk.more hz)
  replace hb0 := hb0.kp hk (by omega)
  replace hb1 := hb1.kp hk (by omega)
  clear hp hk hR
  rcases hc with ⟨c, p, hr, rfl⟩ | ⟨_, l1, v, hr, rfl, hv, hR⟩
  · go_wp2_with fail
    exact ⟨rfl, HP.bad hr hK⟩
  replace HP := HP.bind hr
  clear hr
  obtain rfl := hv
  clear hz hlt
  go_wp2_with fail
  refine (rname_any hR).mono ?_
  intro e W1 hp
  obtain ⟨hk, hc⟩ := hp.cases_
  have hz := Nat.le_of_lt hb0.lt
  have hlt := hb1.lt
  replace hK := hK.trans (hk.more hz)
  replace hb0 := hb0.kp hk (by omega)
  replace hb1 := hb1.kp hk (by omega)
  clear hp hk hR
  rcases hc with ⟨c, p, hr, rfl⟩ | ⟨n, l1, v, hr, rfl, hv, hR⟩
  · go_wp2_with fail
    exact ⟨rfl, HP.bad hr hK⟩
  replace HP := HP.bind hr
  clear hr
  obtain rfl := hv
  have hx : W1.cell? ⟨B + 1, 0, none⟩ = some (.string ⟨#[]⟩) := hb1.cell 0
  have fx := hb1.fz
  go_wp2_with fail
  replace hR := hR.set (a := ⟨B + 1, 0, none⟩) (by show g < B + 1; omega) (.string n)
  replace hK := hK.set (a := ⟨B + 1, 0, none⟩) (by show B ≤ B + 1; omega) (.string n)
  replace hb0 := hb0.other (a := ⟨B + 1, 0, none⟩) (by show B ≠ B + 1; omega) (.string n)
  replace hb1 : Bk _ (B + 1) #[.string n, .string ⟨#[]⟩, .string ⟨#[]⟩, .string ⟨#[]⟩, .slice none 0 0, .slice none 0 0] 63 := hb1.set 0 (.string n)
  clear hx fx hlt hz
  generalize W1.setCell ⟨B + 1, 0, none⟩ (.string n) = W2 at *
  refine (must_any hR (ask_sg 40 (by decide))).mono ?_
  intro e W1 hp
  obtain ⟨hk, hc⟩ := hp.cases_
  have hz := Nat.le_of_lt hb0.lt
  have hlt := hb1.lt
  replace hK := hK.trans (hk.more hz)
  replace hb0 := hb0.kp hk (by omega)
  replace hb1 := hb1.kp hk (by omega)
  clear hp hk hR
  rcases hc with ⟨c, p, hr, rfl⟩ | ⟨_, l1, v, hr, rfl, hv, hR⟩
  · go_wp2_with fail
    exact ⟨rfl, HP.bad hr hK⟩
  replace HP := HP.bind hr
  clear hr
  obtain rfl := hv
  clear hz hlt
  go_wp2_with fail
  refine (rname_any hR).mono ?_
  intro e W1 hp
  obtain ⟨hk, hc⟩ := hp.cases_
  have hz := Nat.le_of_lt hb0.lt
  have hlt := hb1.lt
  replace hK := hK.trans (hk.more hz)
  replace hb0 := hb0.kp hk (by omega)
  replace hb1 := hb1.kp hk (by omega)
  clear hp hk hR
  rcases hc with ⟨c, p, hr, rfl⟩ | ⟨vi, l1, v, hr, rfl, hv, hR⟩
  · go_wp2_with fail
    exact ⟨rfl, HP.bad hr hK⟩
  replace HP := HP.bind hr
  clear hr
  obtain rfl := hv
  have hx : W1.cell? ⟨B + 1, 1, none⟩ = some (.string ⟨#[]⟩) := hb1.cell 1
  have fx := hb1.fz
  go_wp2_with fail
  replace hR := hR.set (a := ⟨B + 1, 1, none⟩) (by show g < B + 1; omega) (.string vi)
  replace hK := hK.set (a := ⟨B + 1, 1, none⟩) (by show B ≤ B + 1; omega) (.string vi)
  replace hb0 := hb0.other (a := ⟨B + 1, 1, none⟩) (by show B ≠ B + 1; omega) (.string vi)
  replace hb1 : Bk _ (B + 1) #[.string n, .string vi, .string ⟨#[]⟩, .string ⟨#[]⟩, .slice none 0 0, .slice none 0 0] 63 := hb1.set 1 (.string vi)
  clear hx fx hlt hz
  generalize W1.setCell ⟨B + 1, 1, none⟩ (.string vi) = W2 at *
  refine (must_any hR (ask_sg 44 (by decide))).mono ?_
  intro e W1 hp
  obtain ⟨hk, hc⟩ := hp.cases_
  have hz := Nat.le_of_lt hb0.lt
  have hlt := hb1.lt
  replace hK := hK.trans (hk.more hz)
  replace hb0 := hb0.kp hk (by omega)
  replace hb1 := hb1.kp hk (by omega)
  clear hp hk hR
  rcases hc with ⟨c, p, hr, rfl⟩ | ⟨_, l1, v, hr, rfl, hv, hR⟩
  · go_wp2_with fail
    exact ⟨rfl, HP.bad hr hK⟩
  replace HP := HP.bind hr
  clear hr
  obtain rfl := hv
  clear hz hlt
  go_wp2_with fail
  refine (rname_any hR).mono ?_
  intro e W1 hp
  obtain ⟨hk, hc⟩ := hp.cases_
  have hz := Nat.le_of_lt hb0.lt
  have hlt := hb1.lt
  replace hK := hK.trans (hk.more hz)
  replace hb0 := hb0.kp hk (by omega)
  replace hb1 := hb1.kp hk (by omega)
  clear hp hk hR
  rcases hc with ⟨c, p, hr, rfl⟩ | ⟨ed, l1, v, hr, rfl, hv, hR⟩
  · go_wp2_with fail
    exact ⟨rfl, HP.bad hr hK⟩
  replace HP := HP.bind hr
  clear hr
  obtain rfl := hv
  have hx : W1.cell? ⟨B + 1, 2, none⟩ = some (.string ⟨#[]⟩) := hb1.cell 2
  have fx := hb1.fz
  go_wp2_with fail
  replace hR := hR.set (a := ⟨B + 1, 2, none⟩) (by show g < B + 1; omega) (.string ed)
  replace hK := hK.set (a := ⟨B + 1, 2, none⟩) (by show B ≤ B + 1; omega) (.string ed)
  replace hb0 := hb0.other (a := ⟨B + 1, 2, none⟩) (by show B ≠ B + 1; omega) (.string ed)
  replace hb1 : Bk _ (B + 1) #[.string n, .string vi, .string ed, .string ⟨#[]⟩, .slice none 0 0, .slice none 0 0] 63 := hb1.set 2 (.string ed)
  clear hx fx hlt hz
  generalize W1.setCell ⟨B + 1, 2, none⟩ (.string ed) = W2 at *
  refine (must_any hR (ask_sg 44 (by decide))).mono ?_
  intro e W1 hp
  obtain ⟨hk, hc⟩ := hp.cases_
  have hz := Nat.le_of_lt hb0.lt
  have hlt := hb1.lt
  replace hK := hK.trans (hk.more hz)
  replace hb0 := hb0.kp hk (by omega)
  replace hb1 := hb1.kp hk (by omega)
  clear hp hk hR
  rcases hc with ⟨c, p, hr, rfl⟩ | ⟨_, l1, v, hr, rfl, hv, hR⟩
  · go_wp2_with fail
    exact ⟨rfl, HP.bad hr hK⟩
  replace HP := HP.bind hr
  clear hr
  obtain rfl := hv
  clear hz hlt
  go_wp2_with fail
  refine (rname_any hR).mono ?_
  intro e W1 hp
  obtain ⟨hk, hc⟩ := hp.cases_
  have hz := Nat.le_of_lt hb0.lt
  have hlt := hb1.lt
  replace hK := hK.trans (hk.more hz)
  replace hb0 := hb0.kp hk (by omega)
  replace hb1 := hb1.kp hk (by omega)
  clear hp hk hR
  rcases hc with ⟨c, p, hr, rfl⟩ | ⟨ck, l1, v, hr, rfl, hv, hR⟩
  · go_wp2_with fail
    exact ⟨rfl, HP.bad hr hK⟩
  replace HP := HP.bind hr
  clear hr
  obtain rfl := hv
  have hx : W1.cell? ⟨B + 1, 3, none⟩ = some (.string ⟨#[]⟩) := hb1.cell 3
  have fx := hb1.fz
  go_wp2_with fail
  replace hR := hR.set (a := ⟨B + 1, 3, none⟩) (by show g < B + 1; omega) (.string ck)
  replace hK := hK.set (a := ⟨B + 1, 3, none⟩) (by show B ≤ B + 1; omega) (.string ck)
  replace hb0 := hb0.other (a := ⟨B + 1, 3, none⟩) (by show B ≠ B + 1; omega) (.string ck)
  replace hb1 : Bk _ (B + 1) #[.string n, .string vi, .string ed, .string ck, .slice none 0 0, .slice none 0 0] 63 := hb1.set 3 (.string ck)
  clear hx fx hlt hz
  generalize W1.setCell ⟨B + 1, 3, none⟩ (.string ck) = W2 at *
  refine (must_any hR (ask_sg 41 (by decide))).mono ?_
  intro e W1 hp
  obtain ⟨hk, hc⟩ := hp.cases_
  have hz := Nat.le_of_lt hb0.lt
  have hlt := hb1.lt
  replace hK := hK.trans (hk.more hz)
  replace hb0 := hb0.kp hk (by omega)
  replace hb1 := hb1.kp hk (by omega)
  clear hp hk hR
  rcases hc with ⟨c, p, hr, rfl⟩ | ⟨_, l1, v, hr, rfl, hv, hR⟩
  · go_wp2_with fail
    exact ⟨rfl, HP.bad hr hK⟩
  replace HP := HP.bind hr
  clear hr
  obtain rfl := hv
  clear hz hlt
  go_wp2_with fail
  refine (must_any hR (ask_sg 58 (by decide))).mono ?_
  intro e W1 hp
  obtain ⟨hk, hc⟩ := hp.cases_
  have hz := Nat.le_of_lt hb0.lt
  have hlt := hb1.lt
  replace hK := hK.trans (hk.more hz)
  replace hb0 := hb0.kp hk (by omega)
  replace hb1 := hb1.kp hk (by omega)
  clear hp hk hR
  rcases hc with ⟨c, p, hr, rfl⟩ | ⟨_, l1, v, hr, rfl, hv, hR⟩
  · go_wp2_with fail
    exact ⟨rfl, HP.bad hr hK⟩
  replace HP := HP.bind hr
  clear hr
  obtain rfl := hv
  clear hz hlt
  go_wp2_with fail
  refine (subs_any hR).mono ?_
  intro e W1 hp
  obtain ⟨hk, hc⟩ := hp.cases_
  have hz := Nat.le_of_lt hb0.lt
  have hlt := hb1.lt
  replace hK := hK.trans (hk.more hz)
  replace hb0 := hb0.kp hk (by omega)
  replace hb1 := hb1.kp hk (by omega)
  clear hp hk hR
  rcases hc with ⟨c, p, hr, rfl⟩ | ⟨ws, l1, v, hr, rfl, hv, hR⟩
  · go_wp2_with fail
    exact ⟨rfl, HP.bad hr hK⟩
  replace HP := HP.bind hr
  clear hr
  have hvs : VSubs (B + 2) _ v ws := own_base hv (by omega)
  obtain ⟨As, cS, rfl, _⟩ := Rd.own hvs
  clear hv
  have hx : W1.cell? ⟨B + 1, 4, none⟩ = some (.slice none 0 0) := hb1.cell 4
  have fx := hb1.fz
  go_wp2_with fail
  replace hR := hR.set (a := ⟨B + 1, 4, none⟩) (by show g < B + 1; omega) (.slice As ws.length cS)
  replace hK := hK.set (a := ⟨B + 1, 4, none⟩) (by show B ≤ B + 1; omega) (.slice As ws.length cS)
  replace hb0 := hb0.other (a := ⟨B + 1, 4, none⟩) (by show B ≠ B + 1; omega) (.slice As ws.length cS)
  replace hb1 : Bk _ (B + 1) #[.string n, .string vi, .string ed, .string ck, .slice As ws.length cS, .slice none 0 0] 63 := hb1.set 4 (.slice As ws.length cS)
  replace hvs := own_set hvs (a := ⟨B + 1, 4, none⟩) (by show B + 1 < B + 2; omega) (.slice As ws.length cS)
  clear hx fx hlt hz
  generalize W1.setCell ⟨B + 1, 4, none⟩ (.slice As ws.length cS) = W2 at *
  refine (ops_any hR).mono ?_
  intro e W1 hp
  obtain ⟨hk, hc⟩ := hp.cases_
  have hz := Nat.le_of_lt hb0.lt
  have hlt := hb1.lt
  replace hK := hK.trans (hk.more hz)
  replace hb0 := hb0.kp hk (by omega)
  replace hb1 := hb1.kp hk (by omega)
  replace hvs := own_kp hvs hk (by omega)
  clear hp hk hR
  rcases hc with ⟨c, p, hr, rfl⟩ | ⟨os, l1, v, hr, rfl, hv, hR⟩
  · go_wp2_with fail
    exact ⟨rfl, HP.bad hr hK⟩
  replace HP := HP.bind hr
  clear hr
  have hvo : VOps (B + 2) _ v os := own_base hv (by omega)
  obtain ⟨Ao, cO, rfl, _⟩ := Rd.own hvo
  clear hv
  have hx : W1.cell? ⟨B + 1, 5, none⟩ = some (.slice none 0 0) := hb1.cell 5
  have fx := hb1.fz
  go_wp2_with fail
  replace hR := hR.set (a := ⟨B + 1, 5, none⟩) (by show g < B + 1; omega) (.slice Ao os.length cO)
  replace hK := hK.set (a := ⟨B + 1, 5, none⟩) (by show B ≤ B + 1; omega) (.slice Ao os.length cO)
  replace hb0 := hb0.other (a := ⟨B + 1, 5, none⟩) (by show B ≠ B + 1; omega) (.slice Ao os.length cO)
  replace hb1 : Bk _ (B + 1) #[.string n, .string vi, .string ed, .string ck, .slice As ws.length cS, .slice Ao os.length cO] 63 := hb1.set 5 (.slice Ao os.length cO)
  replace hvs := own_set hvs (a := ⟨B + 1, 5, none⟩) (by show B + 1 < B + 2; omega) (.slice Ao os.length cO)
  replace hvo := own_set hvo (a := ⟨B + 1, 5, none⟩) (by show B + 1 < B + 2; omega) (.slice Ao os.length cO)
  clear hx fx hlt hz
  generalize W1.setCell ⟨B + 1, 5, none⟩ (.slice Ao os.length cO) = W2 at *
  refine (must_any hR (ask_sg 59 (by decide))).mono ?_
  intro e W1 hp
  obtain ⟨hk, hc⟩ := hp.cases_
  have hz := Nat.le_of_lt hb0.lt
  have hlt := hb1.lt
  replace hK := hK.trans (hk.more hz)
  replace hb0 := hb0.kp hk (by omega)
  replace hb1 := hb1.kp hk (by omega)
  replace hvs := own_kp hvs hk (by omega)
  replace hvo := own_kp hvo hk (by omega)
  clear hp hk hR
  rcases hc with ⟨c, p, hr, rfl⟩ | ⟨_, l1, v, hr, rfl, hv, hR⟩
  · go_wp2_with fail
    exact ⟨rfl, HP.bad hr hK⟩
  replace HP := HP.bind hr
  clear hr
  obtain rfl := hv
  have x0 : W1.cell? ⟨B + 1, 0, none⟩ = some (.string n) := hb1.cell 0
  have y0 : W1.cell? ⟨B, 0, none⟩ = some (.string ⟨#[]⟩) := hb0.cell 0
  have x1 : W1.cell? ⟨B + 1, 1, none⟩ = some (.string vi) := hb1.cell 1
  have y1 : W1.cell? ⟨B, 1, none⟩ = some (.string ⟨#[]⟩) := hb0.cell 1
  have x2 : W1.cell? ⟨B + 1, 2, none⟩ = some (.string ed) := hb1.cell 2
  have y2 : W1.cell? ⟨B, 2, none⟩ = some (.string ⟨#[]⟩) := hb0.cell 2
  have x3 : W1.cell? ⟨B + 1, 3, none⟩ = some (.string ck) := hb1.cell 3
  have y3 : W1.cell? ⟨B, 3, none⟩ = some (.string ⟨#[]⟩) := hb0.cell 3
  have x4 : W1.cell? ⟨B + 1, 4, none⟩ = some (.slice As ws.length cS) := hb1.cell 4
  have y4 : W1.cell? ⟨B, 4, none⟩ = some (.slice none 0 0) := hb0.cell 4
  have x5 : W1.cell? ⟨B + 1, 5, none⟩ = some (.slice Ao os.length cO) := hb1.cell 5
  have y5 : W1.cell? ⟨B, 5, none⟩ = some (.slice none 0 0) := hb0.cell 5
  have fy := hb0.fz
  have hne : ¬ B + 1 = B := by omega
  have hne2 : ¬ B = B + 1 := by omega
  go_wp2_with fail
  refine bodyPost_ret (v := .agg #[.string n, .string vi, .string ed, .string ck, .slice As ws.length cS, .slice Ao os.length cO]) (by simp [results, Try.results67, go_sem, y0, y1, y2, y3, y4, y5]; try rfl) rfl ?_
  refine HP.ret rfl ?_ ⟨_, _, rfl, ?_, ?_⟩ ?_
  · refine Kp.set (Kp.set (Kp.set (Kp.set (Kp.set (Kp.set hK ?_ _) ?_ _) ?_ _) ?_ _) ?_ _) ?_ _ <;> exact Nat.le_refl _
  · refine own_base (own_set (own_set (own_set (own_set (own_set (own_set hvs ?_ _) ?_ _) ?_ _) ?_ _) ?_ _) ?_ _) (show B ≤ B + 2 by omega) <;> (show B < B + 2; omega)
  · refine own_base (own_set (own_set (own_set (own_set (own_set (own_set hvo ?_ _) ?_ _) ?_ _) ?_ _) ?_ _) ?_ _) (show B ≤ B + 2 by omega) <;> (show B < B + 2; omega)
  · refine Rdr.set (Rdr.set (Rdr.set (Rdr.set (Rdr.set (Rdr.set hR ?_ _) ?_ _) ?_ _) ?_ _) ?_ _) ?_ _ <;> exact hg
end
end Go.Proofs.Ytinfbimfiaegdaa
