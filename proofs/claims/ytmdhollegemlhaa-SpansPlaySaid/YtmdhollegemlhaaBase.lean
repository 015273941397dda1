/- Words for memory and bytes that the contracts of this seat are said in: a slice that reads as a list, an append onto a row of the call's own from whatever source, a number's bytes. Conditions: none; nothing of the program is named here. -/
import Derived.WalkKit
import Derived.WalkSpells
import Derived.WalkLawsBesides
import Derived.Handy
import Derived.Lib.Hide
import Derived.Deep.AppendSrc
import Derived.Deep.Draws
import Derived.Maps.AppendAt
namespace Go.Proofs.Ytmdhollegemlhaa
open Go.RowKit

/-! a slice that reads as a list -/

theorem blk_add (a : Addr) (i : Nat) : (a.add i).block = a.block := by unfold Addr.add; split <;> rfl
theorem add_add' (a : Addr) (i j : Nat) : (a.add i).add j = a.add (i + j) := by
  unfold Addr.add
  by_cases h1 : i = 0 <;> by_cases h2 : j = 0 <;> simp [h1, h2, Nat.add_assoc]

/-- The slice value '.slice A n c' holds the cells xs (size cells an element), all below block B. -/
structure Rd (w : World) (B size : Nat) (A : Option Addr) (n c : Nat) (xs : List Value) : Prop where
  len : xs.length = n * size
  cap : n ≤ c
  capm : c ≤ maxLen
  nil : A = none → n = 0 ∧ c = 0
  at_ : 0 < n → ∃ b o, A = some ⟨b, o, none⟩ ∧ b < B ∧ ∀ j u, xs[j]? = some u → w.cell? ⟨b, o + j, none⟩ = some u

section
variable {w w' : World} {B B' size n c : Nat} {A : Option Addr} {xs : List Value}
theorem Rd.keep (h : Rd w B size A n c xs) (hk : ∀ p : Addr, p.block < B → w'.cell? p = w.cell? p) : Rd w' B size A n c xs :=
  ⟨h.len, h.cap, h.capm, h.nil, fun hn => by
    obtain ⟨b, o, e, hb, hc⟩ := h.at_ hn
    exact ⟨b, o, e, hb, fun j u hj => (hk _ hb).trans (hc j u hj)⟩⟩
theorem Rd.below (h : Rd w B size A n c xs) (hb : Below B w w') : Rd w' B size A n c xs := h.keep fun _ hp => hb.cell hp
theorem Rd.belowLe (h : Rd w B size A n c xs) (hb : Below B' w w') (hB : B ≤ B') : Rd w' B size A n c xs := h.below (hb.mono hB)
theorem Rd.more (h : Rd w B size A n c xs) (hB : B ≤ B') : Rd w B' size A n c xs :=
  ⟨h.len, h.cap, h.capm, h.nil, fun hn => by
    obtain ⟨b, o, e, hb, hc⟩ := h.at_ hn
    exact ⟨b, o, e, Nat.lt_of_lt_of_le hb hB, hc⟩⟩
theorem Rd.alloc (h : Rd w B size A n c xs) (hB : B ≤ w.heap.size) (o : Obj) : Rd (w.alloc o) B size A n c xs := h.below ((Below.refl _ _).alloc hB o)
theorem Rd.drew (h : Rd w B size A n c xs) : Rd w.drew B size A n c xs := h.keep fun _ _ => rfl
theorem Rd.none_ (w : World) (B size : Nat) : Rd w B size none 0 0 [] := ⟨by simp, Nat.le_refl _, by simp [maxLen], fun _ => ⟨rfl, rfl⟩, fun h => absurd h (by omega)⟩
/-- The cell of element k (one cell an element). -/
theorem Rd.get (h : Rd w B 1 A n c xs) {k : Nat} (hk : k < n) : ∃ b o u, A = some ⟨b, o, none⟩ ∧ b < B ∧ xs[k]? = some u ∧ w.cell? ⟨b, o + k, none⟩ = some u := by
  obtain ⟨b, o, e, hb, hc⟩ := h.at_ (by omega)
  have hl : k < xs.length := by have := h.len; omega
  exact ⟨b, o, xs[k], e, hb, List.getElem?_eq_getElem hl, hc k _ (List.getElem?_eq_getElem hl)⟩
theorem Rd.cut (h : Rd w B size A n c xs) {k : Nat} (hk : k ≤ n) : Rd w B size (if c = k then A else A.map (·.add (k * size))) (n - k) (c - k) (xs.drop (k * size)) := by
  have hcap := h.cap
  refine ⟨by rw [List.length_drop, h.len, Nat.sub_mul], by omega, by have := h.capm; omega, ?_, ?_⟩
  · intro e
    have hA : A = none := by
      split at e
      · exact e
      · simpa using e
    have := h.nil hA; omega
  · intro hn
    obtain ⟨b, o, rfl, hb, hc⟩ := h.at_ (by omega)
    rw [if_neg (by omega)]
    refine ⟨b, o + k * size, by simp [Addr.add_lit], hb, fun j u hj => ?_⟩
    rw [Nat.add_assoc]
    exact hc _ u (by rw [← hj, List.getElem?_drop])
theorem Rd.cutE {k : Nat} (h : Rd w B 1 A n c xs) (hk : k ≤ n) (hc : c = k) : Rd w B 1 A (n - k) 0 (xs.drop k) := by
  have := h.cut hk
  rwa [if_pos hc, Nat.mul_one, show c - k = 0 from by omega] at this
theorem Rd.cutN {k : Nat} (h : Rd w B 1 A n c xs) (hk : k ≤ n) (hc : ¬ c = k) : Rd w B 1 (A.map fun a => a.add k) (n - k) (c - k) (xs.drop k) := by
  have := h.cut hk
  rwa [if_neg hc, Nat.mul_one] at this
theorem Rd.pre (h : Rd w B size A n c xs) {k : Nat} (hk : k ≤ n) : Rd w B size A k c (xs.take (k * size)) := by
  have hcap := h.cap
  refine ⟨by rw [List.length_take, h.len]; exact Nat.min_eq_left (Nat.mul_le_mul_right _ hk), by omega, h.capm, fun e => by have := h.nil e; omega, fun hn => ?_⟩
  obtain ⟨b, o, e, hb, hc⟩ := h.at_ (by omega)
  refine ⟨b, o, e, hb, fun j u hj => hc j u ?_⟩
  rw [List.getElem?_take] at hj
  split at hj
  · exact hj
  · cases hj
/-- A slice whose cells are told by its address. -/
theorem Rd.of_cells {a : Addr} (hl : xs.length = n * size) (hs : 0 < size) (hn : n ≤ c) (hc : c ≤ maxLen) (hb : a.block < B) (h : ∀ j u, xs[j]? = some u → w.cell? (a.add j) = some u) : Rd w B size (some a) n c xs := by
  refine ⟨hl, hn, hc, fun e => (by cases e), fun hp => ?_⟩
  obtain ⟨b, o, spot⟩ := a
  have h0 : 0 < xs.length := by rw [hl]; exact Nat.mul_pos hp hs
  have hsp : spot = none := by simpa [Addr.add] using World.cell?_spot (h 0 _ (List.getElem?_eq_getElem h0))
  subst hsp
  exact ⟨b, o, rfl, hb, fun j u hj => by rw [← Addr.add_lit]; exact h j u hj⟩
/-- What a call has made and hands back reads as what it owns. -/
theorem Rd.own {base : Nat} {e : TypeId} {v : Value} (h : w.ownsRow base e size v n xs) : ∃ A c, v = .slice A n c ∧ Rd w w.heap.size size A n c xs := by
  rcases h.2 with ⟨rfl, rfl⟩ | ⟨g, cap, cur, rfl, hb, hh, hn, hm, hc, ht⟩
  · exact ⟨none, 0, rfl, ⟨h.1, Nat.le_refl _, by simp [maxLen], fun _ => ⟨rfl, rfl⟩, fun h => absurd h (by omega)⟩⟩
  · refine ⟨_, _, rfl, ⟨h.1, hn, hm, fun e => (by cases e), fun hp => ?_⟩⟩
    exact ⟨g, 0, rfl, (Array.getElem?_eq_some_iff.1 hh).1, fun j u hj => by rw [← Addr.add_lit]; exact h.cells (g := g) rfl j u hj⟩
theorem Rd.src {P : Program} {tx e' : TypeId} (hk : P.underlying tx = some (.slice e')) (h : Rd w B size A n c xs) (h1 : ∀ u ∈ xs, u.oneCell' = true) : Src P size tx (.slice A n c) n xs w := by
  rcases Nat.eq_zero_or_pos n with h0 | h0
  · subst h0
    have : xs = [] := List.eq_nil_of_length_eq_zero (by simpa using h.len)
    subst this
    rcases A with _ | ad
    · exact Src.ofNil w hk c
    · exact Src.ofSlice w hk ad 0 c [] (by simp) (fun j u hj => by simp at hj) h1
  · obtain ⟨b, o, rfl, _, hc⟩ := h.at_ h0
    exact Src.ofSlice w hk _ n c xs h.len (fun j u hj => by rw [Addr.add_lit]; exact hc j u hj) h1
end

theorem own_base {w : World} {base base' : Nat} {e : TypeId} {size n : Nat} {v : Value} {xs : List Value} (h : w.ownsRow base e size v n xs) (hb : base' ≤ base) : w.ownsRow base' e size v n xs := by
  refine ⟨h.1, ?_⟩
  rcases h.2 with h2 | ⟨g, cap, cur, hv, hg, r⟩
  · exact .inl h2
  · exact .inr ⟨g, cap, cur, hv, by omega, r⟩
/-- A slice literal that the call itself lays. -/
theorem Rd.lit (w : World) (cs : Array Value) (t : TypeId) (n size : Nat) (h : cs.size = n * size) (hn : n ≤ maxLen) : Rd (w.alloc (.cells cs t)) (w.heap.size + 1) size (some ⟨w.heap.size, 0, none⟩) n n cs.toList :=
  ⟨by rw [Array.length_toList]; exact h, Nat.le_refl _, hn, fun e => (by cases e), fun _ => ⟨_, _, rfl, Nat.lt_succ_self _, fun j u hj => by
    rw [cell_of_row _ _ _ cs t (0, 0) (heap_alloc_new w _)]
    simpa using hj⟩⟩
theorem Rd.litX (w : World) (cs : Array Value) (t : TypeId) (n size : Nat) (xs : List Value) (hx : cs.toList = xs) (h : cs.size = n * size) (hn : n ≤ maxLen) : Rd (w.alloc (.cells cs t)) (w.alloc (.cells cs t)).heap.size size (some ⟨w.heap.size, 0, none⟩) n n xs := by
  subst hx
  simpa using Rd.lit w cs t n size h hn
theorem own_lit (w : World) (cs : Array Value) (t : TypeId) (n size base : Nat) (h : cs.size = n * size) (hn : n ≤ maxLen) (hb : base ≤ w.heap.size) : (w.alloc (.cells cs t)).ownsRow base t size (.slice (some ⟨w.heap.size, 0, none⟩) n n) n cs.toList :=
  ⟨by rw [Array.length_toList]; exact h, .inr ⟨w.heap.size, n, cs, rfl, hb, heap_alloc_new w _, Nat.le_refl _, hn, h, List.take_of_length_le (by rw [Array.length_toList, h]; exact Nat.le_refl _)⟩⟩

/-! an append onto a row of the call's own, from whatever source -/

theorem setCells_heap_other (b : Nat) : ∀ (vs : List Value) (o : Nat) (w : World) (k : Nat), k ≠ b → (w.setCells b o vs).heap[k]? = w.heap[k]?
  | [], _, _, _, _ => rfl
  | v :: r, o, w, k, h => by
    show ((w.setCell ⟨b, o, none⟩ v).setCells b (o + 1) r).heap[k]? = _
    rw [setCells_heap_other b r (o + 1) _ k h, Below.heap_setCell _ _ _ _ h]
theorem setCells_size (b : Nat) : ∀ (vs : List Value) (o : Nat) (w : World), (w.setCells b o vs).heap.size = w.heap.size
  | [], _, _ => rfl
  | v :: r, o, w => by
    show ((w.setCell ⟨b, o, none⟩ v).setCells b (o + 1) r).heap.size = _
    rw [setCells_size b r]; simp [World.setCell]
theorem setCells_streams (b : Nat) : ∀ (vs : List Value) (o : Nat) (w : World), (w.setCells b o vs).os = w.os ∧ (w.setCells b o vs).tape = w.tape ∧ (w.setCells b o vs).output = w.output
  | [], _, _ => ⟨rfl, rfl, rfl⟩
  | v :: r, o, w => setCells_streams b r (o + 1) (w.setCell ⟨b, o, none⟩ v)
theorem setCells_heap_same (b : Nat) (t : TypeId) (fr : Nat × Nat) : ∀ (vs : List Value) (o : Nat) (w : World) (cur : Array Value), w.heap[b]? = some (.cells cur t fr) → o + vs.length ≤ cur.size →
    ∃ cur', (w.setCells b o vs).heap[b]? = some (.cells cur' t fr) ∧ cur'.size = cur.size ∧ cur'.toList.take (o + vs.length) = cur.toList.take o ++ vs
  | [], o, w, cur, h, _ => ⟨cur, h, rfl, by simp⟩
  | v :: r, o, w, cur, h, hl => by
    simp only [List.length_cons] at hl
    have h1 : (w.setCell ⟨b, o, none⟩ v).heap[b]? = some (.cells (cur.setIfInBounds o v) t fr) := by
      simp [World.setCell, Array.getElem?_modify, h]
    obtain ⟨cur', g1, g2, g3⟩ := setCells_heap_same b t fr r (o + 1) _ _ h1 (by simp; omega)
    refine ⟨cur', g1, by rw [g2]; simp, ?_⟩
    rw [show o + (v :: r).length = o + 1 + r.length from by simp; omega, g3]
    have : (cur.setIfInBounds o v).toList.take (o + 1) = cur.toList.take o ++ [v] := by
      rw [Array.toList_setIfInBounds, List.take_set, List.take_succ_eq_append_getElem (by simp; omega)]
      rw [List.set_append_right _ _ (by simp; omega)]
      simp [show min o cur.size = o from by omega]
    rw [this]; simp

section
variable {P : Program} (w : World)
theorem run_append_src (base : Nat) (t tx ty e : TypeId) (i : TypeInfo) (z : Value) (size bytes : Nat) (ht : P.underlying t = some (.slice e)) (hi : P.info? e = some i) (hz : i.zero = some z)
    (hsize : i.size = size) (hby : i.bytes = bytes) (hzs : z.cells.size = size) (hsz : 0 < size)
    (v : Value) (n : Nat) (xs : List Value) (hown : w.ownsRow base e size v n xs) (x : Value) (m : Nat) (news : List Value) (hs : Src P size tx x m news w)
    (h63 : n + m ≤ maxLen) (hbytes : (n + m) * bytes ≤ 140737488355328) (hbase : base ≤ w.heap.size) :
    ∃ v' w', (Builtin.append_ #[t, tx] ty #[v, x]).run P w = .ok v' w' ∧ w'.ownsRow base e size v' (n + m) (xs ++ news) ∧ w.grownBy w' v.ownBlock ∧ (v'.ownBlock = v.ownBlock ∨ v'.ownBlock = some w.heap.size) := by
  subst hsize; subst hby
  have hsmall : n + m ≤ 9223372036854775807 := by simp only [maxLen] at h63; omega
  have hlen : (xs ++ news).length = (n + m) * i.size := by rw [List.length_append, hown.1, hs.newsLen, Nat.add_mul]
  have grown : ∀ (old : Nat), old < n + m → ∀ (row : Option Nat),
      (w.drew.alloc (.cells ((xs ++ news).toArray ++ Builtin.zeroCells z.cells (grownCap w (n + m) old e - (n + m))) e)).ownsRow base e i.size
        (.slice (some ⟨w.heap.size, 0, none⟩) (n + m) (grownCap w (n + m) old e)) (n + m) (xs ++ news) ∧
      w.grownBy (w.drew.alloc (.cells ((xs ++ news).toArray ++ Builtin.zeroCells z.cells (grownCap w (n + m) old e - (n + m))) e)) row := by
    intro old ho row
    have hge := grownCap_ge w (n + m) old e
    have hcm : grownCap w (n + m) old e ≤ maxLen := grownCap_le_maxLen w (n + m) old e h63
    refine ⟨⟨hlen, .inr ⟨w.heap.size, _, _, rfl, hbase, heap_alloc_new w.drew _, hge, hcm, ?_, ?_⟩⟩, ⟨rfl, rfl, rfl, by simp, fun k hk _ => heap_alloc_old w.drew _ hk⟩⟩
    · simp only [Array.size_append, List.size_toArray, size_zeroCells, hzs, hlen, ← Nat.add_mul]
      congr 1
      omega
    · simp only [Array.toList_append, ← hlen]
      exact List.take_left
  rcases hown.2 with ⟨rfl, rfl⟩ | ⟨g, cap, cur, rfl, hbg, hg, hnc, hcm, hcs, htake⟩
  · have hx : xs = [] := List.eq_nil_of_length_eq_zero (by simpa using hown.1)
    subst hx
    by_cases hm : m = 0
    · subst hm
      have hn : news = [] := List.eq_nil_of_length_eq_zero (by simpa using hs.newsLen)
      subst hn
      refine ⟨.slice none 0 0, w, ?_, by simpa using World.ownsRow_nil w base e i.size, ⟨rfl, rfl, rfl, Nat.le_refl _, fun _ _ _ => rfl⟩, Or.inl rfl⟩
      have hl0 := hs.len
      have hc0 := hs.cells
      rcases hs.kind with ⟨e', hk⟩ | hk <;> simp [Builtin.append_, run_underlying ht, run_underlying hk, sizeOf, typeInfo, hi, hl0, hc0]
    · have hr := run_append_grow_src (P := P) w t tx ty e i z ht hi hz none 0 0 [] (by simp [Builtin.firstCells]) x m news hs (by omega) (by omega) (growslice_fits (by omega) hbytes)
      have hgr := grown 0 (by omega) (Value.ownBlock (.slice none 0 0))
      exact ⟨_, _, hr, hgr.1, hgr.2, Or.inr rfl⟩
  · by_cases hroom : n + m ≤ cap
    · have hfit : n * i.size + news.length ≤ cur.size := by rw [hs.newsLen, hcs, ← Nat.add_mul]; exact Nat.mul_le_mul_right _ hroom
      have hcell : ∀ j, j < cur.size → (w.cell? ⟨g, j, none⟩).isSome = true := fun j hj => by
        rw [cell_of_row w g j cur e (0, 0) hg]; simp [hj]
      have hfz : ∀ j, w.frozen? ⟨g, j, none⟩ = false := fun j => by simp [World.frozen?, hg]
      have hr := run_append_room_src (P := P) w t tx ty e i ht hi g 0 n cap x m news hs hroom (fun j hj => hcell _ (by omega)) (fun j hj => hfz _)
      rw [Nat.zero_add] at hr
      obtain ⟨cur', g1, g2, g3⟩ := setCells_heap_same g e (0, 0) news (n * i.size) w cur hg hfit
      obtain ⟨s1, s2, s3⟩ := setCells_streams g news (n * i.size) w
      refine ⟨_, _, hr, ⟨hlen, .inr ⟨g, cap, cur', rfl, hbg, g1, hroom, hcm, by rw [g2, hcs], ?_⟩⟩, ⟨s1, s2, s3, by rw [setCells_size]; exact Nat.le_refl _, fun k _ hk => setCells_heap_other g _ _ _ k (fun e => hk (by simp [Value.ownBlock, e]))⟩, Or.inl rfl⟩
      rw [← htake, ← g3, hs.newsLen, ← Nat.add_mul]
    · have holds : ∀ j u, xs[j]? = some u → w.cell? ((⟨g, 0, none⟩ : Addr).add j) = some u := hown.cells (g := g) rfl
      have hr := run_append_grow_src (P := P) w t tx ty e i z ht hi hz (some ⟨g, 0, none⟩) n cap xs (run_firstCells_some w.drew i.size n ⟨g, 0, none⟩ n cap xs hown.1 (by simpa using holds)) x m news hs (by omega) (by omega) (growslice_fits (by omega) hbytes)
      have hgr := grown cap (by omega) (Value.ownBlock (.slice (some ⟨g, 0, none⟩) n cap))
      exact ⟨_, _, hr, hgr.1, hgr.2, Or.inr rfl⟩

theorem wpList_append_src {ops : Array Oper} {rest : List Oper} {o : Oper} {a : Act} {Q : Exit → Act → World → Prop} (hgd : o.guard = none) (s x : Operand) (t tx : TypeId)
    (ho : o.op = .call { callee := .builtin .append, args := #[s, x], argTypes := #[t, tx] })
    (base : Nat) (e : TypeId) (i : TypeInfo) (z : Value) (size bytes : Nat) (ht : P.underlying t = some (.slice e)) (hi : P.info? e = some i) (hz : i.zero = some z)
    (hsize : i.size = size) (hby : i.bytes = bytes) (hzs : z.cells.size = size) (hsz : 0 < size)
    (v : Value) (n : Nat) (xs : List Value) (hv : a.eval s = v) (hown : w.ownsRow base e size v n xs) (y : Value) (m : Nat) (news : List Value) (hx : a.eval x = y) (hs : Src P size tx y m news w)
    (h63 : n + m ≤ maxLen) (hbytes : (n + m) * bytes ≤ 140737488355328) (hbase : base ≤ w.heap.size)
    (h : ∀ v' w', w'.ownsRow base e size v' (n + m) (xs ++ news) → w.grownBy w' v.ownBlock → (v'.ownBlock = v.ownBlock ∨ v'.ownBlock = some w.heap.size) → wpList P ops Q rest (a.put o.dst v') w') :
    wpList P ops Q (o :: rest) a w := by
  refine wpList_plain hgd fun K hK => ?_
  obtain ⟨v', w', hr, h2, h3, h4⟩ := run_append_src (P := P) w base t tx o.type e i z size bytes ht hi hz hsize hby hzs hsz v n xs hown y m news hs h63 hbytes hbase
  unfold Oper.wp execOp
  simp only [ho, resolve, invoke, builtin, Sem.run_bind, Sem.run_pure, Result.andThen_ok, List.map_toArray, List.map_cons, List.map_nil, hv, hx, hr]
  exact hK _ _ (h v' w' h2 h3 h4)
end

/-- What an append leaves, said of all that is below the call's own blocks. -/
theorem below_of_own {B : Nat} {w0 w w' : World} {base : Nat} {e : TypeId} {size n : Nat} {v : Value} {xs : List Value} (hb : Below B w0 w) (hg : w.grownBy w' v.ownBlock) (hown : w.ownsRow base e size v n xs) (hB : B ≤ w.heap.size) (hle : B ≤ base) : Below B w0 w' :=
  hb.grown hg hB fun k hk => Nat.le_trans hle (hown.lt k hk).1

/-! bytes -/

/-- Bytes as cells. -/
def bv (l : List UInt8) : List Value := l.map fun b => Value.int .u8 b.toNat
theorem bv_append (a b : List UInt8) : bv (a ++ b) = bv a ++ bv b := by simp [bv]
theorem bv_nil : bv [] = [] := rfl
theorem bv_length (l : List UInt8) : (bv l).length = l.length := by simp [bv]
theorem bv_one (l : List UInt8) : ∀ u ∈ bv l, u.oneCell' = true := by
  intro u hu
  obtain ⟨_, _, rfl⟩ := List.mem_map.1 hu
  rfl
theorem bv_get (l : List UInt8) (k : Nat) : (bv l)[k]? = l[k]?.map fun b => Value.int .u8 b.toNat := by simp [bv]
theorem bv_drop (l : List UInt8) (k : Nat) : (bv l).drop k = bv (l.drop k) := by simp [bv]
theorem bv_take (l : List UInt8) (k : Nat) : (bv l).take k = bv (l.take k) := by simp [bv]

/-- Bytes as a string. -/
def strOf (l : List UInt8) : ByteArray := ⟨l.toArray⟩
theorem strOf_list (l : List UInt8) : (strOf l).data.toList = l := by simp [strOf]
theorem strOf_toList (l : List UInt8) : (strOf l).toList = l := by rw [ByteArray.toList_eq, strOf_list]
theorem strOf_size (l : List UInt8) : (strOf l).size = l.length := by simp [strOf, ByteArray.size]
theorem strOf_of (s : ByteArray) : strOf s.data.toList = s := by unfold strOf; simp
theorem strOf_inj {a b : List UInt8} (h : strOf a = strOf b) : a = b := by have := congrArg (fun s => s.data.toList) h; simpa [strOf] using this
theorem Rd.lenB {w : World} {B n c : Nat} {A : Option Addr} {l : List UInt8} (h : Rd w B 1 A n c (bv l)) : n = l.length := by have := h.len; rw [bv_length] at this; omega
/-- A string out of a slice of bytes. -/
theorem Rd.conv {P : Program} {w : World} {B n c : Nat} {A : Option Addr} {l : List UInt8} (h : Rd w B 1 A n c (bv l)) (src dst e : TypeId) (hs : P.underlying src = some (.slice e)) (he : P.underlying e = some (.int .u8)) (hd : P.underlying dst = some .string) :
    (convert src dst (.slice A n c)).run P w = .ok (.string (strOf l)) w := by
  have hl : n = l.length := by have := h.len; rw [bv_length] at this; omega
  subst hl
  rcases A with _ | a
  · obtain ⟨h0, rfl⟩ := h.nil rfl
    have : l = [] := List.eq_nil_of_length_eq_zero h0
    subst this
    rw [run_convert_bytes_string w src dst e none _ _ hs he hd]
    rfl
  · refine run_convert_bytes_back w src dst e a c l hs he hd fun j hj => ?_
    obtain ⟨b, o, e1, _, hc⟩ := h.at_ (by omega)
    simp at e1; subst e1
    rw [Addr.add_lit]
    exact hc j _ (by rw [bv_get, List.getElem?_eq_getElem hj]; rfl)
theorem conv_one {P : Program} (src dst e : TypeId) (hs : P.underlying src = some (.slice e)) (he : P.underlying e = some (.int .u8)) (hd : P.underlying dst = some .string) (W : World) (z : Int) :
    (convert src dst (.slice (some ⟨W.heap.size, 0, none⟩) 1 1)).run P (W.alloc (.cells #[.int .u8 z] e)) = .ok (.string ⟨#[UInt8.ofNat z.toNat]⟩) (W.alloc (.cells #[.int .u8 z] e)) := by
  rw [run_convert_bytes_string _ src dst e _ _ _ hs he hd]
  have hl := run_loadCells_list (P := P) (W.alloc (.cells #[.int .u8 z] e)) ⟨W.heap.size, 0, none⟩ ([z].map (Value.int .u8)) (cell_one_new W _ e)
  simp only [List.length_map] at hl
  rw [run_bytesToString _ _ 1 1 [z] hl]
  rfl

/-- How many bytes a number has (none for 0). -/
def nb (n : Nat) : Nat := if n = 0 then 0 else nb (n / 256) + 1
theorem nb_zero : nb 0 = 0 := by unfold nb; rfl
theorem nb_pos {n : Nat} (h : 0 < n) : nb n = nb (n / 256) + 1 := by rw [nb, if_neg (by omega)]
/-- A number's bytes, the greatest part first, without a 0 ahead. -/
def be (n : Nat) : List UInt8 := if n = 0 then [] else be (n / 256) ++ [UInt8.ofNat (n % 256)]
theorem be_zero : be 0 = [] := by unfold be; rfl
theorem be_pos {n : Nat} (h : 0 < n) : be n = be (n / 256) ++ [UInt8.ofNat (n % 256)] := by rw [be, if_neg (by omega)]
theorem be_length (n : Nat) : (be n).length = nb n := by
  induction n using Nat.strongRecOn with
  | _ n ih =>
    by_cases h : n = 0
    · subst h; rw [be_zero, nb_zero]; rfl
    · rw [be_pos (by omega), nb_pos (by omega), List.length_append, ih _ (by omega)]; rfl
/-- A number, how many bytes it has ahead of them. -/
def num (n : Nat) : List UInt8 := UInt8.ofNat (nb n) :: be n
theorem num_length (n : Nat) : (num n).length = nb n + 1 := by simp [num, be_length]
theorem nb_le {n k : Nat} (h : n < 256 ^ k) : nb n ≤ k := by
  induction k generalizing n with
  | zero => rw [show n = 0 from by simpa using h, nb_zero]; exact Nat.le_refl _
  | succ k ih =>
    by_cases h0 : n = 0
    · subst h0; rw [nb_zero]; omega
    · rw [nb_pos (by omega)]
      have := ih (n := n / 256) (by rw [Nat.pow_succ] at h; omega)
      omega
theorem nb_le8 {n : Nat} (h : n < 2 ^ 64) : nb n ≤ 8 := nb_le (k := 8) (by omega)
/-- The byte at place i. -/
theorem be_get (n i : Nat) (h : i < nb n) : (be n)[i]? = some (UInt8.ofNat (n / 256 ^ (nb n - 1 - i) % 256)) := by
  induction n using Nat.strongRecOn with
  | _ n ih =>
    have h0 : 0 < n := by
      rcases Nat.eq_zero_or_pos n with h0 | h0
      · subst h0; rw [nb_zero] at h; omega
      · exact h0
    have hn := nb_pos h0
    rw [be_pos h0]
    by_cases hi : i < nb (n / 256)
    · rw [List.getElem?_append_left (by rw [be_length]; exact hi), ih (n / 256) (by omega) hi, Nat.div_div_eq_div_mul, hn]
      rw [show nb (n / 256) + 1 - 1 - i = (nb (n / 256) - 1 - i) + 1 from by omega, Nat.pow_succ, Nat.mul_comm]
    · have : i = nb (n / 256) := by omega
      rw [List.getElem?_append_right (by rw [be_length]; omega), be_length, hn, this]
      simp
end Go.Proofs.Ytmdhollegemlhaa
