/- Layer 7: what memory holds of what was read: operations, who may stand in a tuple, relations, types. Conditions: none. -/
import Derived.Test.YteafdhpcnpfmkaaGreatNeed
namespace Go.Proofs.YteafdhpcnpfmkaaGreat
open Go.RowKit

def ocell (o : OpP) : List Value := [.int .i64 o.1, .string o.2.1, .string o.2.2]
def ocells (l : List OpP) : List Value := l.flatMap ocell
def scell (s : SubP) : List Value := [.string s.1, .string s.2]
def scells (l : List SubP) : List Value := l.flatMap scell
theorem ocells_app (a b : List OpP) : ocells (a ++ b) = ocells a ++ ocells b := List.flatMap_append
theorem scells_app (a b : List SubP) : scells (a ++ b) = scells a ++ scells b := List.flatMap_append
theorem ocells_length (l : List OpP) : (ocells l).length = l.length * 3 := by
  induction l with
  | nil => rfl
  | cons a r ih => simp only [ocells, List.flatMap_cons, List.length_append, List.length_cons] at *; rw [ih]; simp [ocell]; omega
theorem scells_length (l : List SubP) : (scells l).length = l.length * 2 := by
  induction l with
  | nil => rfl
  | cons a r ih => simp only [scells, List.flatMap_cons, List.length_append, List.length_cons] at *; rw [ih]; simp [scell]; omega
theorem ocells_one (l : List OpP) : ∀ u ∈ ocells l, u.oneCell' = true := by
  intro u hu
  obtain ⟨t, _, ht⟩ := List.mem_flatMap.1 hu
  simp only [ocell, List.mem_cons, List.not_mem_nil, or_false] at ht
  rcases ht with rfl | rfl | rfl <;> rfl
theorem scells_one (l : List SubP) : ∀ u ∈ scells l, u.oneCell' = true := by
  intro u hu
  obtain ⟨t, _, ht⟩ := List.mem_flatMap.1 hu
  simp only [scell, List.mem_cons, List.not_mem_nil, or_false] at ht
  rcases ht with rfl | rfl <;> rfl
theorem ocell_one (t : OpP) : ∀ u ∈ ocell t, u.oneCell' = true := by
  intro u ht
  simp only [ocell, List.mem_cons, List.not_mem_nil, or_false] at ht
  rcases ht with rfl | rfl | rfl <;> rfl
theorem scell_one (t : SubP) : ∀ u ∈ scell t, u.oneCell' = true := by
  intro u ht
  simp only [scell, List.mem_cons, List.not_mem_nil, or_false] at ht
  rcases ht with rfl | rfl <;> rfl
theorem cells_new2 (w : World) (a b : Value) (t : TypeId) : ∀ j u, [a, b][j]? = some u → (w.alloc (.cells #[a, b] t)).cell? ((⟨w.heap.size, 0, none⟩ : Addr).add j) = some u := by
  intro j u hj
  rw [Addr.add_lit, cell_of_row _ _ _ _ _ _ (heap_alloc_new w _), Nat.zero_add]
  simpa using hj
/-- What an append onto a row of the call's own leaves: all else is as it was. -/
theorem kp_grown {g B base : Nat} {w0 w w' : World} {e : TypeId} {size n : Nat} {v : Value} {xs : List Value} {o : Obj} (hk : Kp g B w0 w) (hg : (w.alloc o).grownBy w' v.ownBlock) (hown : w.ownsRow base e size v n xs) (hB : B ≤ w.heap.size) (hle : B ≤ base) : Kp g B w0 w' :=
  hk.trans ⟨hg.os, hg.tape, hg.output, by have := hg.size; simp at this; omega, fun k hk' hn => by
    rw [hg.block k (by simp; omega) (fun e => by have := (hown.lt k e.symm).1; omega), Below.heap_alloc _ _ _ (by omega)]⟩
theorem kp_grown0 {g B base : Nat} {w0 w w' : World} {e : TypeId} {size n : Nat} {v : Value} {xs : List Value} (hk : Kp g B w0 w) (hg : w.grownBy w' v.ownBlock) (hown : w.ownsRow base e size v n xs) (hB : B ≤ w.heap.size) (hle : B ≤ base) : Kp g B w0 w' :=
  hk.trans ⟨hg.os, hg.tape, hg.output, hg.size, fun k hk' hn => hg.block k (by omega) (fun e => by have := (hown.lt k e.symm).1; omega)⟩
theorem rdr_grown0 {g base : Nat} {l : List Tk} {w w' : World} {e : TypeId} {size n : Nat} {v : Value} {xs : List Value} (h : Rdr w g l) (hg : w.grownBy w' v.ownBlock) (hown : w.ownsRow base e size v n xs) (hle : g < base) : Rdr w' g l :=
  h.keep fun k hk' => hg.block k (by have := h.size; omega) (fun e => by have := (hown.lt k e.symm).1; omega)
theorem rdr_grown {g base : Nat} {l : List Tk} {w w' : World} {e : TypeId} {size n : Nat} {v : Value} {xs : List Value} {o : Obj} (h : Rdr w g l) (hg : (w.alloc o).grownBy w' v.ownBlock) (hown : w.ownsRow base e size v n xs) (hle : g < base) : Rdr w' g l :=
  h.keep fun k hk' => by
    have := h.size
    rw [hg.block k (by simp; omega) (fun e => by have := (hown.lt k e.symm).1; omega), Below.heap_alloc _ _ _ (by omega)]
/-- Operations of the call's own, from the block B on. -/
def VOps (B : Nat) (w : World) (v : Value) (o : List OpP) : Prop := w.ownsRow B 132 3 v o.length (ocells o)
/-- Who may stand in a tuple. -/
def VSubs (B : Nat) (w : World) (v : Value) (s : List SubP) : Prop := w.ownsRow B 104 2 v s.length (scells s)
def VSub (_ : World) (v : Value) (s : SubP) : Prop := v = .agg #[.string s.1, .string s.2]
theorem info_op : (Tryz.prog.info? 132).map (fun i => (i.zero, i.size, i.bytes)) = some (some (.agg #[.int .i64 0, .string .empty, .string .empty]), 3, 40) := by kernel_rfl
theorem info_sub : (Tryz.prog.info? 104).map (fun i => (i.zero, i.size, i.bytes)) = some (some (.agg #[.string .empty, .string .empty]), 2, 32) := by kernel_rfl

section
variable {w w' : World} {g B : Nat}
/-- What was read stays, whatever the reader passes. -/
theorem own_kp {e : TypeId} {size n : Nat} {v : Value} {xs : List Value} (h : w.ownsRow B e size v n xs) (hk : Kp g w.heap.size w w') (hg : g < B) : w'.ownsRow B e size v n xs :=
  own_same h fun k hk' => hk.block k (h.lt k hk').2 (by have := (h.lt k hk').1; omega)
end

/-- A block of cells, as it is. -/
def Bk (w : World) (b : Nat) (cs : Array Value) (t : TypeId) : Prop := w.heap[b]? = some (.cells cs t (0, 0))
section
variable {l : List Tk} {w w' : World} {b g B : Nat} {cs : Array Value} {t : TypeId}
theorem Bk.new (w : World) (cs : Array Value) (t : TypeId) : Bk (w.alloc (.cells cs t)) w.heap.size cs t := heap_alloc_new w _
theorem Bk.lt (h : Bk w b cs t) : b < w.heap.size := (Array.getElem?_eq_some_iff.1 h).1
theorem Bk.kp (h : Bk w b cs t) (hk : Kp g w.heap.size w w') (hg : b ≠ g) : Bk w' b cs t := (hk.block b h.lt hg).trans h
theorem Bk.below (h : Bk w b cs t) (hk : Below w.heap.size w w') : Bk w' b cs t := (hk.block b h.lt).trans h
theorem Bk.alloc (h : Bk w b cs t) (o : Obj) : Bk (w.alloc o) b cs t := (heap_alloc_old w _ h.lt).trans h
theorem Bk.cell (h : Bk w b cs t) (i : Nat) : w.cell? ⟨b, i, none⟩ = cs[i]? := by rw [cell_of_row _ _ _ _ _ _ h]
theorem Bk.c2 {x y : Value} (h : Bk w b #[x, y] t) : w.cell? ⟨b, 0, none⟩ = some x ∧ w.cell? ⟨b, 1, none⟩ = some y := ⟨h.cell 0, h.cell 1⟩
theorem Bk.fz (h : Bk w b cs t) (i : Nat) : w.frozen? ⟨b, i, none⟩ = false := by simp [World.frozen?, show w.heap[b]? = some (.cells cs t (0, 0)) from h]
theorem Kp.alloc (h : Kp g B w w') (hB : B ≤ w'.heap.size) (o : Obj) : Kp g B w (w'.alloc o) := h.trans (Kp.of_below ((Below.refl _ w').alloc hB o) g)
theorem Kp.set (h : Kp g B w w') {a : Addr} (ha : B ≤ a.block) (v : Value) : Kp g B w (w'.setCell a v) :=
  h.trans ⟨rfl, rfl, rfl, by simp [World.setCell], fun k hk _ => Below.heap_setCell _ _ _ _ (by omega)⟩
theorem Rdr.set (h : Rdr w g l) {a : Addr} (ha : g < a.block) (v : Value) : Rdr (w.setCell a v) g l := h.keep fun k hk => Below.heap_setCell _ _ _ _ (by omega)
theorem Rdr.alloc {l : List Tk} (h : Rdr w g l) (o : Obj) : Rdr (w.alloc o) g l := h.below ((Below.refl _ w).alloc (Nat.le_refl _) o)
end

section
variable {w : World} {g : Nat} {l : List Tk}
theorem ask_sg (c : UInt8) (h : signB c.toNat = true) : Ask (sg c) := ⟨sg_size c, .inr ⟨c, h, rfl⟩⟩
theorem ask_key {s : ByteArray} (h : keyB s = true) (h0 : 0 < s.size) : Ask s := ⟨h0, .inl h⟩
/-- Whether a key, or a sign, is next: it is passed. -/
theorem may_any (h : Rdr w g l) {s : ByteArray} (hs : Ask s) : Calls Tryz.prog 152 #[.pointer (some ⟨g, 0, none⟩), .string s] w fun e w' => e = .returned (.bool (isT s l)) ∧ Rdr w' g (if isT s l = true then l.tail else l) ∧ Kp g w.heap.size w w' := by
  rw [h.fine.isT hs]
  by_cases e : (hdT l).2.1 = s
  · rw [decide_eq_true e, if_pos rfl]
    exact may_yes h hs.1 e
  · rw [decide_eq_false e, if_neg (by decide)]
    exact (may_no h e).mono fun _ _ ⟨h1, h2⟩ => ⟨h1, h.below h2, Kp.of_below h2 g⟩
/-- What is to be shown of a call's end, step by step. -/
def To (X R : Ending → World → Prop) : Prop := ∀ e w', X e w' → R e w'
section
variable {α β : Type} {V : World → Value → β → Prop} {B : Nat} {w' : World} {r : Rs α} {q : Rs β} {k : α → List Tk → Rs β} {R : Ending → World → Prop}
theorem To.bind (h : To (Post V B w g (andT r k)) R) {a : α} {l : List Tk} (hr : r = .ok (a, l)) : To (Post V B w g (k a l)) R := fun e w' q => h e w' (by rw [hr]; exact q)
theorem To.bad (h : To (Post V B w g (andT r k)) R) {c p : Nat} (hr : r = .error (c, p)) (hk : Kp g B w w') : R (faultE c p) w' := h _ _ (by rw [hr]; exact Post.bad hk c p)
theorem To.fail (h : To (Post V B w g q) R) {c p : Nat} (hr : q = .error (c, p)) (hk : Kp g B w w') : R (faultE c p) w' := h _ _ (by rw [hr]; exact Post.bad hk c p)
theorem To.ret (h : To (Post V B w g q) R) {a : β} {l : List Tk} {v : Value} (hr : q = .ok (a, l)) (hk : Kp g B w w') (hv : V w' v a) (hd : Rdr w' g l) : R (.returned v) w' := h _ _ (by rw [hr]; exact Post.ok hk hv hd)
theorem To.eq (h : To (Post V B w g q) R) {q' : Rs β} (hr : q = q') : To (Post V B w g q') R := by rw [← hr]; exact h
end
set_option maxRecDepth 100000 in
theorem sub_any (h : Rdr w g l) : Calls Tryz.prog 191 #[.pointer (some ⟨g, 0, none⟩)] w
    (Post VSub w.heap.size w g (andT (nameT l) fun n r => andT (if isT (sg 35) r = true then nameT r.tail else .ok (⟨#[]⟩, r)) fun m r => .ok ((n, m), r))) := by
  suffices H : ∀ R, To (Post VSub w.heap.size w g (andT (nameT l) fun n r => andT (if isT (sg 35) r = true then nameT r.tail else .ok (⟨#[]⟩, r)) fun m r => .ok ((n, m), r))) R → Calls Tryz.prog 191 #[.pointer (some ⟨g, 0, none⟩)] w R from H _ fun _ _ h => h
  intro R HP
  have hg := h.size
  have h0 := h.alloc (.cells #[.string ⟨#[]⟩, .string ⟨#[]⟩] 104)
  have b0 := Bk.new w #[.string ⟨#[]⟩, .string ⟨#[]⟩] 104
  have k0 : Kp g w.heap.size w _ := (Kp.refl g _ w).alloc (Nat.le_refl _) (.cells #[.string ⟨#[]⟩, .string ⟨#[]⟩] 104)
  have z0 : w.heap.size ≤ _ := k0.size
  go_enter Tryz.func191, Tryz.ntmps191
  go_wp2_with fail
  refine (rname_any h0).mono ?_
  intro e w1 hp
  obtain ⟨hk, hc⟩ := hp.cases_
  clear hp h0 h
  have k1 := k0.trans (hk.more z0)
  have c0 := b0.kp hk (by omega)
  have z1 := k1.size
  have hn1 : ¬ w1.heap.size = w.heap.size := by have := c0.lt; omega
  have hn2 : ¬ w.heap.size = w1.heap.size := by omega
  clear k0 b0 hk z0
  rcases hc with ⟨c, p, hr, rfl⟩ | ⟨n, l1, v, hr, rfl, rfl, h1⟩
  · go_wp2_with fail
    exact ⟨rfl, HP.bad hr k1⟩
  replace HP := HP.bind hr
  clear hr
  have h1' := h1.alloc (.cells #[.string n, .string ⟨#[]⟩] 104)
  have ka := ask_sg 35 (by decide)
  cases hi : isT (sg 35) l1 with
  | false =>
    have km := may_any h1' ka
    rw [hi, if_neg (by decide)] at km
    rw [hi, if_neg (by decide)] at HP
    go_wp2_with fail
    refine km.mono ?_
    rintro e w2 ⟨rfl, h2, hk⟩
    have k2 := (k1.alloc z1 _).trans (hk.more (size_alloc z1))
    have d1 := (Bk.new w1 #[.string n, .string ⟨#[]⟩] 104).kp hk (by have := h1.size; omega)
    have d0 := (c0.alloc (.cells #[.string n, .string ⟨#[]⟩] 104)).kp hk (by omega)
    clear hk km h1 h1' c0
    obtain ⟨x0, x1⟩ := d1.c2
    obtain ⟨y0, y1⟩ := d0.c2
    have fy := d0.fz
    go_wp2_with fail
    refine bodyPost_ret (v := .agg #[.string n, .string ⟨#[]⟩]) (by simp [results, Tryz.results191, go_sem, y0, y1]; try rfl) rfl ?_
    refine HP.ret rfl ?_ rfl ?_
    · refine Kp.set (Kp.set k2 ?_ _) ?_ _ <;> exact Nat.le_refl _
    · refine Rdr.set (Rdr.set h2 ?_ _) ?_ _ <;> exact hg
  | true =>
    have km := may_any h1' ka
    rw [hi, if_pos rfl] at km
    rw [hi, if_pos rfl] at HP
    go_wp2_with fail
    refine km.mono ?_
    rintro e w2 ⟨rfl, h2, hk⟩
    have k2 := (k1.alloc z1 _).trans (hk.more (size_alloc z1))
    have d1 := (Bk.new w1 #[.string n, .string ⟨#[]⟩] 104).kp hk (by have := h1.size; omega)
    have d0 := (c0.alloc (.cells #[.string n, .string ⟨#[]⟩] 104)).kp hk (by omega)
    have hg1 : w1.heap.size ≠ g := by have := h1.size; omega
    clear hk km h1 h1' c0
    go_wp2_with fail
    refine (rname_any h2).mono ?_
    intro e w3 hp
    obtain ⟨hk, hc⟩ := hp.cases_
    clear hp
    have z2 := k2.size
    have k3 := k2.trans (hk.more z2)
    have e1 := d1.kp hk hg1
    have e0 := d0.kp hk (by omega)
    clear hk d1 d0 k2
    rcases hc with ⟨c, p, hr, rfl⟩ | ⟨m, l3, v, hr, rfl, rfl, h3⟩
    · go_wp2_with fail
      exact ⟨rfl, HP.bad hr k3⟩
    replace HP := HP.bind hr
    obtain ⟨x0, x1⟩ := e1.c2
    obtain ⟨y0, y1⟩ := e0.c2
    have fx := e1.fz
    have fy := e0.fz
    go_wp2_with fail
    refine bodyPost_ret (v := .agg #[.string n, .string m]) (by simp [results, Tryz.results191, go_sem, y0, y1]; try rfl) rfl ?_
    refine HP.ret rfl ?_ rfl ?_
    · refine Kp.set (Kp.set (Kp.set k3 z1 _) ?_ _) ?_ _ <;> exact Nat.le_refl _
    · refine Rdr.set (Rdr.set (Rdr.set h3 (by show g < w1.heap.size; omega) _) ?_ _) ?_ _ <;> exact hg
end
end Go.Proofs.YteafdhpcnpfmkaaGreat
/- Layer 7: a part of a rewrite, read: the calls of its parentheses by a hypothesis. Conditions: none. -/
namespace Go.Proofs.YteafdhpcnpfmkaaGreat
open Go.RowKit

theorem andT_assoc {α β γ : Type} (r : Rs α) (k : α → List Tk → Rs β) (k2 : β → List Tk → Rs γ) : andT (andT r k) k2 = andT r fun a l => andT (k a l) k2 := by
  cases r with
  | error e => rfl
  | ok a => rfl
theorem ask_this : Ask sThis := ask_key rfl (by decide)
theorem own_ops1 (w : World) (k : Nat) (a b : ByteArray) (B : Nat) (hB : B ≤ w.heap.size) : VOps B (w.alloc (.cells #[.int .i64 k, .string a, .string b] 132)) (.slice (some ⟨w.heap.size, 0, none⟩) 1 1) [(k, a, b)] :=
  own_lit w #[.int .i64 k, .string a, .string b] 132 1 3 B rfl (by decide) hB
/-- What a rewrite's call does, up to a number of tokens. -/
def RewUpto (N : Nat) : Prop := ∀ (d : Nat) (l : List Tk) (w : World) (g : Nat), l.length ≤ N → d ≤ 8 → Rdr w g l →
  Calls Tryz.prog 192 #[.pointer (some ⟨g, 0, none⟩), .int .i64 d] w (Post (VOps w.heap.size) w.heap.size w g (rewT d l))
def PartUpto (N : Nat) : Prop := ∀ (d : Nat) (l : List Tk) (w : World) (g : Nat), l.length ≤ N → d ≤ 8 → Rdr w g l →
  Calls Tryz.prog 200 #[.pointer (some ⟨g, 0, none⟩), .int .i64 d] w (Post (VOps w.heap.size) w.heap.size w g (partT d l))
def innerT (d p : Nat) (l : List Tk) : Rs (List OpP) := if d = 8 then .error (13, p) else andT (rewT (d + 1) l) fun o r => andT (needT (sg 41) r) fun _ r => .ok (o, r)

section
variable {w : World} {g : Nat} {l : List Tk}
set_option maxRecDepth 100000 in
theorem inner_any {N d p : Nat} (H : RewUpto N) (hN : l.length ≤ N) (hd : d ≤ 8) (h : Rdr w g l) :
    Calls Tryz.prog 204 #[.pointer (some ⟨g, 0, none⟩), .int .i64 d, .int .i64 p] w (Post (VOps w.heap.size) w.heap.size w g (innerT d p l)) := by
  suffices HH : ∀ R, To (Post (VOps w.heap.size) w.heap.size w g (innerT d p l)) R → Calls Tryz.prog 204 #[.pointer (some ⟨g, 0, none⟩), .int .i64 d, .int .i64 p] w R from HH _ fun _ _ h => h
  intro R HP
  have hg := h.size
  unfold innerT at HP
  by_cases h8 : d = 8
  · subst h8
    rw [if_pos rfl] at HP
    go_enter Tryz.func204, Tryz.ntmps204
    go_wp2_with fail
    exact ⟨rfl, HP.fail rfl (Kp.refl _ _ _)⟩
  · rw [if_neg h8] at HP
    have hd8 : ¬ ((8 : Int) ≤ (d : Int)) := by omega
    have kr := H (d + 1) l w g hN (by omega) h
    have hcast : (((d + 1 : Nat)) : Int) = (d : Int) + 1 := by omega
    rw [hcast] at kr
    go_enter Tryz.func204, Tryz.ntmps204
    go_wp2_with fail
    refine kr.mono ?_
    intro e w1 hp
    obtain ⟨hk, hc⟩ := hp.cases_
    clear hp kr h
    rcases hc with ⟨c, p, hr, rfl⟩ | ⟨o, l1, v, hr, rfl, hv, h1⟩
    · go_wp2_with fail
      exact ⟨rfl, HP.bad hr hk⟩
    replace HP := HP.bind hr
    clear hr
    go_wp2_with fail
    refine (must_any h1 (ask_sg 41 (by decide))).mono ?_
    intro e w2 hp
    obtain ⟨hk2, hc⟩ := hp.cases_
    have k2 := hk.trans (hk2.more hk.size)
    have hv2 := own_kp hv hk2 hg
    clear hp hk hk2 hv h1
    rcases hc with ⟨c, p, hr, rfl⟩ | ⟨o2, l2, v2, hr, rfl, rfl, h2⟩
    · go_wp2_with fail
      exact ⟨rfl, HP.bad hr k2⟩
    replace HP := HP.bind hr
    go_wp2_with fail
    exact HP.ret rfl k2 hv2 h2
theorem partT_in {d : Nat} {l : List Tk} (h1 : isT sThis l = false) (h2 : isT (sg 40) l = true) : partT d l = innerT d (hdT l).2.2 l.tail := by
  rw [partT_eq, h1, h2, if_neg (by decide), if_pos rfl]
  unfold innerT rewT
  by_cases h8 : d = 8
  · rw [if_pos h8, if_pos h8]; rfl
  · rw [if_neg h8, if_neg h8, andT_assoc]
theorem partT_name {d : Nat} {l : List Tk} (h1 : isT sThis l = false) (h2 : isT (sg 40) l = false) : partT d l = andT (nameT l) fun n r => if isT (sg 46) r = true then andT (nameT r.tail) fun m r => .ok ([(3, n, m)], r) else .ok ([(2, n, ⟨#[]⟩)], r) := by
  rw [partT_eq, h1, h2, if_neg (by decide), if_neg (by decide)]
theorem partT_this {d : Nat} {l : List Tk} (h1 : isT sThis l = true) : partT d l = .ok ([(1, ⟨#[]⟩, ⟨#[]⟩)], l.tail) := by
  rw [partT_eq, h1, if_pos rfl]
set_option maxRecDepth 100000 in
set_option maxHeartbeats 1000000 in
theorem part_upto {N : Nat} (H : RewUpto (N - 1)) : PartUpto N := by
  intro d l w g hN hd h
  suffices HH : ∀ R, To (Post (VOps w.heap.size) w.heap.size w g (partT d l)) R → Calls Tryz.prog 200 #[.pointer (some ⟨g, 0, none⟩), .int .i64 d] w R from HH _ fun _ _ h => h
  intro R HP
  have hg := h.size
  have km := may_any h ask_this
  have htl : l.tail.length = l.length - 1 := List.length_tail
  cases hi : isT sThis l with
  | true =>
    rw [partT_this hi] at HP
    rw [hi, if_pos rfl] at km
    go_enter Tryz.func200, Tryz.ntmps200
    go_wp2_with fail
    refine km.mono ?_
    rintro e w1 ⟨rfl, h1, hk⟩
    go_wp2_with fail
    exact HP.ret rfl (hk.alloc hk.size _) (own_ops1 _ _ _ _ _ hk.size) (h1.alloc _)
  | false =>
    rw [hi, if_neg (by decide)] at km
    go_enter Tryz.func200, Tryz.ntmps200
    go_wp2_with fail
    refine km.mono ?_
    rintro e w1 ⟨rfl, h1, k1⟩
    have f2 := tok_f2
    go_wp2_with fail
    refine (first_any h1).mono ?_
    rintro e w2 ⟨rfl, hb⟩
    have h2 := h1.below hb
    have k2 := k1.trans ((Kp.of_below hb g).more k1.size)
    clear hb h1 k1 km
    have km := may_any h2 (ask_sg 40 (by decide))
    cases hj : isT (sg 40) l with
    | true =>
      rw [partT_in hi hj] at HP
      rw [hj, if_pos rfl] at km
      go_wp2_with fail
      refine km.mono ?_
      rintro e w3 ⟨rfl, h3, hk⟩
      have k3 := k2.trans (hk.more k2.size)
      clear hk k2 km
      go_wp2_with fail
      refine (inner_any (p := (hdT l).2.2) H (by omega) hd h3).mono ?_
      intro e w4 hp
      obtain ⟨hk, hc⟩ := hp.cases_
      have k4 := k3.trans (hk.more k3.size)
      clear hp hk 
      rcases hc with ⟨c, p, hr, rfl⟩ | ⟨o, l1, v, hr, rfl, hv, h4⟩
      · go_wp2_with fail
        exact ⟨rfl, HP.fail hr k4⟩
      go_wp2_with fail
      exact HP.ret hr k4 (own_base hv k3.size) h4
    | false =>
      rw [partT_name hi hj] at HP
      rw [hj, if_neg (by decide)] at km
      go_wp2_with fail
      refine km.mono ?_
      rintro e w3 ⟨rfl, h3, hk⟩
      have k3 := k2.trans (hk.more k2.size)
      clear hk k2 km h2
      go_wp2_with fail
      refine (rname_any h3).mono ?_
      intro e w4 hp
      obtain ⟨hk, hc⟩ := hp.cases_
      have k4 := k3.trans (hk.more k3.size)
      clear hp hk k3
      rcases hc with ⟨c, p, hr, rfl⟩ | ⟨n, l4, v, hr, rfl, rfl, h4⟩
      · go_wp2_with fail
        exact ⟨rfl, HP.bad hr k4⟩
      replace HP := HP.bind hr
      clear hr
      have km := may_any h4 (ask_sg 46 (by decide))
      cases hq : isT (sg 46) l4 with
      | false =>
        rw [hq, if_neg (by decide)] at HP
        rw [hq, if_neg (by decide)] at km
        go_wp2_with fail
        refine km.mono ?_
        rintro e w5 ⟨rfl, h5, hk⟩
        have k5 := k4.trans (hk.more k4.size)
        clear hk k4 km
        go_wp2_with fail
        exact HP.ret rfl (k5.alloc k5.size _) (own_ops1 _ _ _ _ _ k5.size) (h5.alloc _)
      | true =>
        rw [hq, if_pos rfl] at HP
        rw [hq, if_pos rfl] at km
        go_wp2_with fail
        refine km.mono ?_
        rintro e w5 ⟨rfl, h5, hk⟩
        have k5 := k4.trans (hk.more k4.size)
        clear hk k4 km
        go_wp2_with fail
        refine (rname_any h5).mono ?_
        intro e w6 hp
        obtain ⟨hk, hc⟩ := hp.cases_
        have k6 := k5.trans (hk.more k5.size)
        clear hp hk k5
        rcases hc with ⟨c, p, hr, rfl⟩ | ⟨m, l6, v, hr, rfl, rfl, h6⟩
        · go_wp2_with fail
          exact ⟨rfl, HP.bad hr k6⟩
        replace HP := HP.bind hr
        clear hr
        go_wp2_with fail
        exact HP.ret rfl (k6.alloc k6.size _) (own_ops1 _ _ _ _ _ k6.size) (h6.alloc _)
end
end Go.Proofs.YteafdhpcnpfmkaaGreat
