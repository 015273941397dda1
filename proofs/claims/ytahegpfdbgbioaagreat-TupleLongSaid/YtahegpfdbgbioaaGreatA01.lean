import Derived.WalkKit
import Derived.WalkSpells
import Derived.WalkLawsBesides
import Derived.Handy
import Derived.Lib.Hide
import Derived.Deep.AppendSrc
import Derived.Deep.Draws
import Derived.Maps.AppendAt
import Derived.OrdersHeld
import Derived.RegionTactic
import Derived.Deep.RegionWith
set_option maxRecDepth 100000
set_option maxHeartbeats 4000000
namespace Go.Proofs.YtahegpfdbgbioaaGreat
open Go.RowKit
structure Rd (w : World) (B size : Nat) (A : Option Addr) (n c : Nat) (xs : List Value) : Prop where
 len : xs.length = n * size
 cap : n ≤ c
 capm : c ≤ maxLen
 nil : A = none → n = 0 ∧ c = 0
 at_ : 0 < n → ∃ b o, A = some ⟨b, o, none⟩ ∧ b < B ∧ ∀ j u, xs[j]? = some u → w.cell? ⟨b, o + j, none⟩ = some u
section
variable {w w' : World} {B B' size n c : Nat} {A : Option Addr} {xs : List Value}
theorem Rd.keep (h : Rd w B size A n c xs) (hk : ∀ p : Addr, p.block < B → w'.cell? p = w.cell? p) : Rd w' B size A n c xs :=
 ⟨h.len, h.cap, h.capm, h.nil, fun hn => by
  obtain ⟨b, o, e, hb, hc⟩ := h.at_ hn
  exact ⟨b, o, e, hb, fun j u hj => (hk _ hb).trans (hc j u hj)⟩⟩
theorem Rd.below (h : Rd w B size A n c xs) (hb : Below B w w') : Rd w' B size A n c xs := h.keep fun _ hp => hb.cell hp
theorem Rd.more (h : Rd w B size A n c xs) (hB : B ≤ B') : Rd w B' size A n c xs :=
 ⟨h.len, h.cap, h.capm, h.nil, fun hn => by
  obtain ⟨b, o, e, hb, hc⟩ := h.at_ hn
  exact ⟨b, o, e, Nat.lt_of_lt_of_le hb hB, hc⟩⟩
theorem Rd.alloc (h : Rd w B size A n c xs) (hB : B ≤ w.heap.size) (o : Obj) : Rd (w.alloc o) B size A n c xs := h.below ((Below.refl _ _).alloc hB o)
theorem Rd.drew (h : Rd w B size A n c xs) : Rd w.drew B size A n c xs := h.keep fun _ _ => rfl
theorem Rd.none_ (w : World) (B size : Nat) : Rd w B size none 0 0 [] := ⟨by simp, Nat.le_refl _, by simp [maxLen], fun _ => ⟨rfl, rfl⟩, fun h => absurd h (by omega)⟩
theorem Rd.get (h : Rd w B 1 A n c xs) {k : Nat} (hk : k < n) : ∃ b o u, A = some ⟨b, o, none⟩ ∧ b < B ∧ xs[k]? = some u ∧ w.cell? ⟨b, o + k, none⟩ = some u := by
 obtain ⟨b, o, e, hb, hc⟩ := h.at_ (by omega)
 have hl : k < xs.length := by have := h.len; omega
 exact ⟨b, o, xs[k], e, hb, List.getElem?_eq_getElem hl, hc k _ (List.getElem?_eq_getElem hl)⟩
theorem Rd.cut (h : Rd w B size A n c xs) {k : Nat} (hk : k ≤ n) : Rd w B size (if c = k then A else A.map (·.add (k * size))) (n - k) (c - k) (xs.drop (k * size)) := by
 have hcap := h.cap
 refine ⟨by rw [List.length_drop, h.len, Nat.sub_mul], by omega, by have := h.capm; omega, ?_, ?_⟩
 · intro e
   have hA : A = none := by
    split at e
    · exact e
    · simpa using e
   have := h.nil hA; omega
 · intro hn
   obtain ⟨b, o, rfl, hb, hc⟩ := h.at_ (by omega)
   rw [if_neg (by omega)]
   refine ⟨b, o + k * size, by simp [Addr.add_lit], hb, fun j u hj => ?_⟩
   rw [Nat.add_assoc]
   exact hc _ u (by rw [← hj, List.getElem?_drop])
theorem Rd.cutN {k : Nat} (h : Rd w B 1 A n c xs) (hk : k ≤ n) (hc : ¬ c = k) : Rd w B 1 (A.map fun a => a.add k) (n - k) (c - k) (xs.drop k) := by
 have := h.cut hk
 rwa [if_neg hc, Nat.mul_one] at this
theorem Rd.pre (h : Rd w B size A n c xs) {k : Nat} (hk : k ≤ n) : Rd w B size A k c (xs.take (k * size)) := by
 have hcap := h.cap
 refine ⟨by rw [List.length_take, h.len]; exact Nat.min_eq_left (Nat.mul_le_mul_right _ hk), by omega, h.capm, fun e => by have := h.nil e; omega, fun hn => ?_⟩
 obtain ⟨b, o, e, hb, hc⟩ := h.at_ (by omega)
 refine ⟨b, o, e, hb, fun j u hj => hc j u ?_⟩
 rw [List.getElem?_take] at hj
 split at hj
 · exact hj
 · cases hj
theorem Rd.own {base : Nat} {e : TypeId} {v : Value} (h : w.ownsRow base e size v n xs) : ∃ A c, v = .slice A n c ∧ Rd w w.heap.size size A n c xs := by
 rcases h.2 with ⟨rfl, rfl⟩ | ⟨g, cap, cur, rfl, hb, hh, hn, hm, hc, ht⟩
 · exact ⟨none, 0, rfl, ⟨h.1, Nat.le_refl _, by simp [maxLen], fun _ => ⟨rfl, rfl⟩, fun h => absurd h (by omega)⟩⟩
 · refine ⟨_, _, rfl, ⟨h.1, hn, hm, fun e => (by cases e), fun hp => ?_⟩⟩
   exact ⟨g, 0, rfl, (Array.getElem?_eq_some_iff.1 hh).1, fun j u hj => by rw [← Addr.add_lit]; exact h.cells (g := g) rfl j u hj⟩
theorem Rd.src {P : Program} {tx e' : TypeId} (hk : P.underlying tx = some (.slice e')) (h : Rd w B size A n c xs) (h1 : ∀ u ∈ xs, u.oneCell' = true) : Src P size tx (.slice A n c) n xs w := by
 rcases Nat.eq_zero_or_pos n with h0 | h0
 · subst h0
   have : xs = [] := List.eq_nil_of_length_eq_zero (by simpa using h.len)
   subst this
   rcases A with _ | ad
   · exact Src.ofNil w hk c
   · exact Src.ofSlice w hk ad 0 c [] (by simp) (fun j u hj => by simp at hj) h1
 · obtain ⟨b, o, rfl, _, hc⟩ := h.at_ h0
   exact Src.ofSlice w hk _ n c xs h.len (fun j u hj => by rw [Addr.add_lit]; exact hc j u hj) h1
end
theorem own_base {w : World} {base base' : Nat} {e : TypeId} {size n : Nat} {v : Value} {xs : List Value} (h : w.ownsRow base e size v n xs) (hb : base' ≤ base) : w.ownsRow base' e size v n xs := by
 refine ⟨h.1, ?_⟩
 rcases h.2 with h2 | ⟨g, cap, cur, hv, hg, r⟩
 · exact .inl h2
 · exact .inr ⟨g, cap, cur, hv, by omega, r⟩
theorem Rd.lit (w : World) (cs : Array Value) (t : TypeId) (n size : Nat) (h : cs.size = n * size) (hn : n ≤ maxLen) : Rd (w.alloc (.cells cs t)) (w.heap.size + 1) size (some ⟨w.heap.size, 0, none⟩) n n cs.toList :=
 ⟨by rw [Array.length_toList]; exact h, Nat.le_refl _, hn, fun e => (by cases e), fun _ => ⟨_, _, rfl, Nat.lt_succ_self _, fun j u hj => by
  rw [cell_of_row _ _ _ cs t (0, 0) (heap_alloc_new w _)]
  simpa using hj⟩⟩
theorem Rd.litX (w : World) (cs : Array Value) (t : TypeId) (n size : Nat) (xs : List Value) (hx : cs.toList = xs) (h : cs.size = n * size) (hn : n ≤ maxLen) : Rd (w.alloc (.cells cs t)) (w.alloc (.cells cs t)).heap.size size (some ⟨w.heap.size, 0, none⟩) n n xs := by
 subst hx
 simpa using Rd.lit w cs t n size h hn
theorem own_lit (w : World) (cs : Array Value) (t : TypeId) (n size base : Nat) (h : cs.size = n * size) (hn : n ≤ maxLen) (hb : base ≤ w.heap.size) : (w.alloc (.cells cs t)).ownsRow base t size (.slice (some ⟨w.heap.size, 0, none⟩) n n) n cs.toList :=
 ⟨by rw [Array.length_toList]; exact h, .inr ⟨w.heap.size, n, cs, rfl, hb, heap_alloc_new w _, Nat.le_refl _, hn, h, List.take_of_length_le (by rw [Array.length_toList, h]; exact Nat.le_refl _)⟩⟩
theorem setCells_heap_other (b : Nat) : ∀ (vs : List Value) (o : Nat) (w : World) (k : Nat), k ≠ b → (w.setCells b o vs).heap[k]? = w.heap[k]?
 | [], _, _, _, _ => rfl
 | v :: r, o, w, k, h => by
  show ((w.setCell ⟨b, o, none⟩ v).setCells b (o + 1) r).heap[k]? = _
  rw [setCells_heap_other b r (o + 1) _ k h, Below.heap_setCell _ _ _ _ h]
theorem setCells_size (b : Nat) : ∀ (vs : List Value) (o : Nat) (w : World), (w.setCells b o vs).heap.size = w.heap.size
 | [], _, _ => rfl
 | v :: r, o, w => by
  show ((w.setCell ⟨b, o, none⟩ v).setCells b (o + 1) r).heap.size = _
  rw [setCells_size b r]; simp [World.setCell]
theorem setCells_streams (b : Nat) : ∀ (vs : List Value) (o : Nat) (w : World), (w.setCells b o vs).os = w.os ∧ (w.setCells b o vs).tape = w.tape ∧ (w.setCells b o vs).output = w.output
 | [], _, _ => ⟨rfl, rfl, rfl⟩
 | v :: r, o, w => setCells_streams b r (o + 1) (w.setCell ⟨b, o, none⟩ v)
theorem setCells_heap_same (b : Nat) (t : TypeId) (fr : Nat × Nat) : ∀ (vs : List Value) (o : Nat) (w : World) (cur : Array Value), w.heap[b]? = some (.cells cur t fr) → o + vs.length ≤ cur.size →
 ∃ cur', (w.setCells b o vs).heap[b]? = some (.cells cur' t fr) ∧ cur'.size = cur.size ∧ cur'.toList.take (o + vs.length) = cur.toList.take o ++ vs
 | [], o, w, cur, h, _ => ⟨cur, h, rfl, by simp⟩
 | v :: r, o, w, cur, h, hl => by
  simp only [List.length_cons] at hl
  have h1 : (w.setCell ⟨b, o, none⟩ v).heap[b]? = some (.cells (cur.setIfInBounds o v) t fr) := by
   simp [World.setCell, Array.getElem?_modify, h]
  obtain ⟨cur', g1, g2, g3⟩ := setCells_heap_same b t fr r (o + 1) _ _ h1 (by simp; omega)
  refine ⟨cur', g1, by rw [g2]; simp, ?_⟩
  rw [show o + (v :: r).length = o + 1 + r.length from by simp; omega, g3]
  have : (cur.setIfInBounds o v).toList.take (o + 1) = cur.toList.take o ++ [v] := by
   rw [Array.toList_setIfInBounds, List.take_set, List.take_succ_eq_append_getElem (by simp; omega)]
   rw [List.set_append_right _ _ (by simp; omega)]
   simp [show min o cur.size = o from by omega]
  rw [this]; simp
section
variable {P : Program} (w : World)
theorem run_append_src (base : Nat) (t tx ty e : TypeId) (i : TypeInfo) (z : Value) (size bytes : Nat) (ht : P.underlying t = some (.slice e)) (hi : P.info? e = some i) (hz : i.zero = some z)
 (hsize : i.size = size) (hby : i.bytes = bytes) (hzs : z.cells.size = size) (hsz : 0 < size)
 (v : Value) (n : Nat) (xs : List Value) (hown : w.ownsRow base e size v n xs) (x : Value) (m : Nat) (news : List Value) (hs : Src P size tx x m news w)
 (h63 : n + m ≤ maxLen) (hbytes : (n + m) * bytes ≤ 140737488355328) (hbase : base ≤ w.heap.size) :
 ∃ v' w', (Builtin.append_ #[t, tx] ty #[v, x]).run P w = .ok v' w' ∧ w'.ownsRow base e size v' (n + m) (xs ++ news) ∧ w.grownBy w' v.ownBlock ∧ (v'.ownBlock = v.ownBlock ∨ v'.ownBlock = some w.heap.size) := by
 subst hsize; subst hby
 have hsmall : n + m ≤ 9223372036854775807 := by simp only [maxLen] at h63; omega
 have hlen : (xs ++ news).length = (n + m) * i.size := by rw [List.length_append, hown.1, hs.newsLen, Nat.add_mul]
 have grown : ∀ (old : Nat), old < n + m → ∀ (row : Option Nat),
  (w.drew.alloc (.cells ((xs ++ news).toArray ++ Builtin.zeroCells z.cells (grownCap w (n + m) old e - (n + m))) e)).ownsRow base e i.size
   (.slice (some ⟨w.heap.size, 0, none⟩) (n + m) (grownCap w (n + m) old e)) (n + m) (xs ++ news) ∧
  w.grownBy (w.drew.alloc (.cells ((xs ++ news).toArray ++ Builtin.zeroCells z.cells (grownCap w (n + m) old e - (n + m))) e)) row := by
  intro old ho row
  have hge := grownCap_ge w (n + m) old e
  have hcm : grownCap w (n + m) old e ≤ maxLen := grownCap_le_maxLen w (n + m) old e h63
  refine ⟨⟨hlen, .inr ⟨w.heap.size, _, _, rfl, hbase, heap_alloc_new w.drew _, hge, hcm, ?_, ?_⟩⟩, ⟨rfl, rfl, rfl, by simp, fun k hk _ => heap_alloc_old w.drew _ hk⟩⟩
  · simp only [Array.size_append, List.size_toArray, size_zeroCells, hzs, hlen, ← Nat.add_mul]
    congr 1
    omega
  · simp only [Array.toList_append, ← hlen]
    exact List.take_left
 rcases hown.2 with ⟨rfl, rfl⟩ | ⟨g, cap, cur, rfl, hbg, hg, hnc, hcm, hcs, htake⟩
 · have hx : xs = [] := List.eq_nil_of_length_eq_zero (by simpa using hown.1)
   subst hx
   by_cases hm : m = 0
   · subst hm
     have hn : news = [] := List.eq_nil_of_length_eq_zero (by simpa using hs.newsLen)
     subst hn
     refine ⟨.slice none 0 0, w, ?_, by simpa using World.ownsRow_nil w base e i.size, ⟨rfl, rfl, rfl, Nat.le_refl _, fun _ _ _ => rfl⟩, Or.inl rfl⟩
     have hl0 := hs.len
     have hc0 := hs.cells
     rcases hs.kind with ⟨e', hk⟩ | hk <;> simp [Builtin.append_, run_underlying ht, run_underlying hk, sizeOf, typeInfo, hi, hl0, hc0]
   · have hr := run_append_grow_src (P := P) w t tx ty e i z ht hi hz none 0 0 [] (by simp [Builtin.firstCells]) x m news hs (by omega) (by omega) (growslice_fits (by omega) hbytes)
     have hgr := grown 0 (by omega) (Value.ownBlock (.slice none 0 0))
     exact ⟨_, _, hr, hgr.1, hgr.2, Or.inr rfl⟩
 · by_cases hroom : n + m ≤ cap
   · have hfit : n * i.size + news.length ≤ cur.size := by rw [hs.newsLen, hcs, ← Nat.add_mul]; exact Nat.mul_le_mul_right _ hroom
     have hcell : ∀ j, j < cur.size → (w.cell? ⟨g, j, none⟩).isSome = true := fun j hj => by
      rw [cell_of_row w g j cur e (0, 0) hg]; simp [hj]
     have hfz : ∀ j, w.frozen? ⟨g, j, none⟩ = false := fun j => by simp [World.frozen?, hg]
     have hr := run_append_room_src (P := P) w t tx ty e i ht hi g 0 n cap x m news hs hroom (fun j hj => hcell _ (by omega)) (fun j hj => hfz _)
     rw [Nat.zero_add] at hr
     obtain ⟨cur', g1, g2, g3⟩ := setCells_heap_same g e (0, 0) news (n * i.size) w cur hg hfit
     obtain ⟨s1, s2, s3⟩ := setCells_streams g news (n * i.size) w
     refine ⟨_, _, hr, ⟨hlen, .inr ⟨g, cap, cur', rfl, hbg, g1, hroom, hcm, by rw [g2, hcs], ?_⟩⟩, ⟨s1, s2, s3, by rw [setCells_size]; exact Nat.le_refl _, fun k _ hk => setCells_heap_other g _ _ _ k (fun e => hk (by simp [Value.ownBlock, e]))⟩, Or.inl rfl⟩
     rw [← htake, ← g3, hs.newsLen, ← Nat.add_mul]
   · have holds : ∀ j u, xs[j]? = some u → w.cell? ((⟨g, 0, none⟩ : Addr).add j) = some u := hown.cells (g := g) rfl
     have hr := run_append_grow_src (P := P) w t tx ty e i z ht hi hz (some ⟨g, 0, none⟩) n cap xs (run_firstCells_some w.drew i.size n ⟨g, 0, none⟩ n cap xs hown.1 (by simpa using holds)) x m news hs (by omega) (by omega) (growslice_fits (by omega) hbytes)
     have hgr := grown cap (by omega) (Value.ownBlock (.slice (some ⟨g, 0, none⟩) n cap))
     exact ⟨_, _, hr, hgr.1, hgr.2, Or.inr rfl⟩
theorem wpList_append_src {ops : Array Oper} {rest : List Oper} {o : Oper} {a : Act} {Q : Exit → Act → World → Prop} (hgd : o.guard = none) (s x : Operand) (t tx : TypeId)
 (ho : o.op = .call { callee := .builtin .append, args := #[s, x], argTypes := #[t, tx] })
 (base : Nat) (e : TypeId) (i : TypeInfo) (z : Value) (size bytes : Nat) (ht : P.underlying t = some (.slice e)) (hi : P.info? e = some i) (hz : i.zero = some z)
 (hsize : i.size = size) (hby : i.bytes = bytes) (hzs : z.cells.size = size) (hsz : 0 < size)
 (v : Value) (n : Nat) (xs : List Value) (hv : a.eval s = v) (hown : w.ownsRow base e size v n xs) (y : Value) (m : Nat) (news : List Value) (hx : a.eval x = y) (hs : Src P size tx y m news w)
 (h63 : n + m ≤ maxLen) (hbytes : (n + m) * bytes ≤ 140737488355328) (hbase : base ≤ w.heap.size)
 (h : ∀ v' w', w'.ownsRow base e size v' (n + m) (xs ++ news) → w.grownBy w' v.ownBlock → (v'.ownBlock = v.ownBlock ∨ v'.ownBlock = some w.heap.size) → wpList P ops Q rest (a.put o.dst v') w') :
 wpList P ops Q (o :: rest) a w := by
 refine wpList_plain hgd fun K hK => ?_
 obtain ⟨v', w', hr, h2, h3, h4⟩ := run_append_src (P := P) w base t tx o.type e i z size bytes ht hi hz hsize hby hzs hsz v n xs hown y m news hs h63 hbytes hbase
 unfold Oper.wp execOp
 simp only [ho, resolve, invoke, builtin, Sem.run_bind, Sem.run_pure, Result.andThen_ok, List.map_toArray, List.map_cons, List.map_nil, hv, hx, hr]
 exact hK _ _ (h v' w' h2 h3 h4)
end
theorem below_of_own {B : Nat} {w0 w w' : World} {base : Nat} {e : TypeId} {size n : Nat} {v : Value} {xs : List Value} (hb : Below B w0 w) (hg : w.grownBy w' v.ownBlock) (hown : w.ownsRow base e size v n xs) (hB : B ≤ w.heap.size) (hle : B ≤ base) : Below B w0 w' :=
 hb.grown hg hB fun k hk => Nat.le_trans hle (hown.lt k hk).1
def bv (l : List UInt8) : List Value := l.map fun b => Value.int .u8 b.toNat
theorem bv_length (l : List UInt8) : (bv l).length = l.length := by simp [bv]
theorem bv_get (l : List UInt8) (k : Nat) : (bv l)[k]? = l[k]?.map fun b => Value.int .u8 b.toNat := by simp [bv]
def strOf (l : List UInt8) : ByteArray := ⟨l.toArray⟩
theorem Rd.conv {P : Program} {w : World} {B n c : Nat} {A : Option Addr} {l : List UInt8} (h : Rd w B 1 A n c (bv l)) (src dst e : TypeId) (hs : P.underlying src = some (.slice e)) (he : P.underlying e = some (.int .u8)) (hd : P.underlying dst = some .string) :
 (convert src dst (.slice A n c)).run P w = .ok (.string (strOf l)) w := by
 have hl : n = l.length := by have := h.len; rw [bv_length] at this; omega
 subst hl
 rcases A with _ | a
 · obtain ⟨h0, rfl⟩ := h.nil rfl
   have : l = [] := List.eq_nil_of_length_eq_zero h0
   subst this
   rw [run_convert_bytes_string w src dst e none _ _ hs he hd]
   rfl
 · refine run_convert_bytes_back w src dst e a c l hs he hd fun j hj => ?_
   obtain ⟨b, o, e1, _, hc⟩ := h.at_ (by omega)
   simp at e1; subst e1
   rw [Addr.add_lit]
   exact hc j _ (by rw [bv_get, List.getElem?_eq_getElem hj]; rfl)
def be (n : Nat) : List UInt8 := if n = 0 then [] else be (n / 256) ++ [UInt8.ofNat (n % 256)]
end Go.Proofs.YtahegpfdbgbioaaGreat
namespace Go.Proofs.YtahegpfdbgbioaaGreat
open Go.RowKit
section
variable {P : Program} {ops : Array Oper} {Q : Exit → Act → World → Prop} {md : Region.Mode}
theorem ro_take (i : Nat) (d : Option Tmp) {oi : Oper} {v : Value} {fuel : Nat} {listed : Array Bool} {a : Act} {w : World} (hi : ops[i]? = some oi) (hd : oi.dst = d)
 (hs : Region.noSelect ops = true) (hf : Region.free md ops listed i = true) (hr : (Region.ready md ops listed).contains i = true)
 (hQ : ∀ c a w, Q (.panic c) (a.put oi.dst v) w → Q (.panic c) a w) (hw : Region.wanted oi (yielded ops a.tmps) = true) (hy : ∀ w, (execOp a.eval oi).run P w = .ok (.value v) w)
 (h : wpAny P md ops Q fuel (listed.setIfInBounds i true) (a.put d v) w) : wpAny P md ops Q (fuel + 1) listed a w := by
 subst hd
 exact wpAny_take hi hs hf hr hQ (.inl ⟨hw, hy⟩) h
theorem roH_take (i : Nat) (d : Option Tmp) {S : World → Prop} {oi : Oper} {v : Value} {fuel : Nat} {listed : Array Bool} {a : Act} {w : World} (hi : ops[i]? = some oi) (hd : oi.dst = d)
 (hs : Region.noSelect ops = true) (hf : Region.free md ops listed i = true) (hr : (Region.ready md ops listed).contains i = true)
 (hQ : ∀ c a w, Q (.panic c) (a.put oi.dst v) w → Q (.panic c) a w) (hw : Region.wanted oi (yielded ops a.tmps) = true) (hy : ∀ w, S w → (execOp a.eval oi).run P w = .ok (.value v) w) (hS : S w)
 (h : wpAnyH P md ops Q S fuel (listed.setIfInBounds i true) (a.put d v) w) : wpAnyH P md ops Q S (fuel + 1) listed a w := by
 subst hd
 exact wpAnyH_take hi hs hf hr hQ (.inl ⟨hw, hy⟩) hS h
theorem roH_one (i : Nat) {S : World → Prop} {oi : Oper} {fuel : Nat} {listed : Array Bool} {a : Act} {w : World} (hi : ops[i]? = some oi) (hr : Region.ready md ops listed = [i])
 (h : ∀ K' : Act → World → Prop, (∀ a w, S w → wpAnyH P md ops Q S fuel (listed.setIfInBounds i true) a w → K' a w) → if Region.wanted oi (yielded ops a.tmps) = true then Oper.wp P oi a w K' Q else K' (a.put oi.dst undef) w) :
 wpAnyH P md ops Q S (fuel + 1) listed a w :=
 wpAnyH_all hr (by simp) fun k hk => by
  simp at hk
  subst hk
  exact wpOp_step hi fun K' hK' => h K' fun a w s x => hK' a w ⟨s, x⟩
end
end Go.Proofs.YtahegpfdbgbioaaGreat
namespace Go.Proofs.YtahegpfdbgbioaaGreat
open Go.RowKit
section
variable {P : Program} {ops : Array Oper} {Q : Exit → Act → World → Prop} {md : Region.Mode}
theorem ro_swap3 (i j k : Nat) (d : Option Tmp) (S : World → Prop) {oi oj ok : Oper} {v : Value} {fuel : Nat} {listed : Array Bool} {a : Act} {w : World} (hi : ops[i]? = some oi) (hj : ops[j]? = some oj) (hk : ops[k]? = some ok) (hd : oi.dst = d)
 (hs : Region.noSelect ops = true) (hap : oi.apart ops oj = true) (hap2 : oi.apart ops ok = true) (hij : (i == j) = false) (hik : (i == k) = false) (hjk : (j == k) = false)
 (h0 : (Region.ready md ops listed).all (fun m => m == i || m == j) = true) (h0' : (Region.ready md ops listed).contains i = true)
 (h1 : (Region.ready md ops (listed.setIfInBounds i true)).all (· == j) = true) (h1' : (Region.ready md ops (listed.setIfInBounds i true)).contains j = true)
 (h2 : (Region.ready md ops (listed.setIfInBounds j true)).all (fun m => m == i || m == k) = true) (h2' : (Region.ready md ops (listed.setIfInBounds j true)).contains i = true)
 (h3 : (Region.ready md ops ((listed.setIfInBounds i true).setIfInBounds j true)).all (· == k) = true) (h3' : (Region.ready md ops ((listed.setIfInBounds i true).setIfInBounds j true)).contains k = true)
 (h4 : (Region.ready md ops ((listed.setIfInBounds j true).setIfInBounds k true)).all (· == i) = true) (h4' : (Region.ready md ops ((listed.setIfInBounds j true).setIfInBounds k true)).contains i = true)
 (hQ : ∀ c a w, Q (.panic c) (a.put oi.dst v) w → Q (.panic c) a w) (hw : Region.wanted oi (yielded ops a.tmps) = true) (hy : ∀ w, S w → (execOp a.eval oi).run P w = .ok (.value v) w) (hS : S w)
 (h : ∀ K' : Act → World → Prop, (∀ a w, S w → wpOp P ops Q k (fun a w => S w ∧ wpAny P md ops Q fuel (((listed.setIfInBounds i true).setIfInBounds j true).setIfInBounds k true) a w) a w → K' a w) →
  if Region.wanted oj (yielded ops (a.put d v).tmps) = true then Oper.wp P oj (a.put d v) w K' Q else K' ((a.put d v).put oj.dst undef) w) : wpAny P md ops Q (fuel + 3) listed a w := by
 subst hd
 have hY : YieldsIf P ops S oi v a := .inl ⟨hw, hy⟩
 have H : wpOp P ops Q j (fun a' w' => S w' ∧ wpOp P ops Q k (fun a w => S w ∧ wpAny P md ops Q fuel (((listed.setIfInBounds i true).setIfInBounds j true).setIfInBounds k true) a w) a' w') (a.put oi.dst v) w :=
  wpOp_step hj fun K' hK' => h K' fun a w s x => hK' a w ⟨s, x⟩
 have hsel := Region.noSelect_spec hs
 have ne : ∀ {l : Array Bool} {k : Nat}, (Region.ready md ops l).contains k = true → Region.ready md ops l ≠ [] := fun hc e => by rw [e] at hc; simp at hc
 have hne : i ≠ j := by simpa using hij
 have hne2 : i ≠ k := by simpa using hik
 have hne3 : j ≠ k := by simpa using hjk
 refine ⟨fun e => absurd e (ne h0'), fun m hm => ?_⟩
 have hm' := List.all_eq_true.1 h0 m hm
 simp at hm'
 rcases hm' with rfl | rfl
 · refine hY.wpOp hi hS ⟨fun e => absurd e (ne h1'), fun n hn => ?_⟩
   have hn' := List.all_eq_true.1 h1 n hn
   simp at hn'
   subst hn'
   refine wpOp_mono (fun a' w' x => ?_) H
   refine ⟨fun e => absurd e (ne h3'), fun q hq => ?_⟩
   have hq' := List.all_eq_true.1 h3 q hq
   simp at hq'
   subst hq'
   exact wpOp_mono (fun _ _ y => y.2) x.2
 · refine wpOp_mono ?_ (wpOp_putIf hj hap (fun cs b => hsel i oi cs b hi) (fun cs b => hsel m oj cs b hj) hQ hY H)
   rintro a' w' ⟨hy', hS', h'⟩
   refine ⟨fun e => absurd e (ne h2'), fun n hn => ?_⟩
   have hn' := List.all_eq_true.1 h2 n hn
   simp at hn'
   rcases hn' with rfl | rfl
   · refine hy'.wpOp hi hS' ?_
     rw [Array.setIfInBounds_comm _ _ (Ne.symm hne)]
     refine ⟨fun e => absurd e (ne h3'), fun q hq => ?_⟩
     have hq' := List.all_eq_true.1 h3 q hq
     simp at hq'
     subst hq'
     exact wpOp_mono (fun _ _ y => y.2) h'
   · refine wpOp_mono ?_ (wpOp_putIf hk hap2 (fun cs b => hsel i oi cs b hi) (fun cs b => hsel n ok cs b hk) hQ hy' h')
     rintro a2 w2 ⟨hy2, hS2, h2x⟩
     refine ⟨fun e => absurd e (ne h4'), fun q hq => ?_⟩
     have hq' := List.all_eq_true.1 h4 q hq
     simp at hq'
     subst hq'
     refine hy2.wpOp hi hS2 ?_
     rw [Array.setIfInBounds_comm (i := n) (j := q) _ _ (Ne.symm hne2), Array.setIfInBounds_comm (i := m) (j := q) _ _ (Ne.symm hne)]
     exact h2x
def wpAnyL (P : Program) (md : Region.Mode) (ops : Array Oper) (Q : Exit → Act → World → Prop) (S : World → Prop) (z : Nat) : Nat → Array Bool → Act → World → Prop
 | 0, l, a, w => Region.ready md ops l = [] ∧ Q .normal a w
 | n + 1, l, a, w => (Region.ready md ops l = [] → Q .normal a w) ∧ ∀ i ∈ Region.ready md ops l, wpOp P ops Q i (fun b u => (i ≠ z → S u) ∧ wpAnyL P md ops Q S z n (l.setIfInBounds i true) b u) a w
variable {S : World → Prop} {z : Nat}
theorem wpAnyL_any : ∀ (n : Nat) (l : Array Bool) (a : Act) (w : World), wpAnyL P md ops Q S z n l a w → wpAny P md ops Q n l a w
 | 0, _, _, _, h => h
 | n + 1, _, _, _, h => ⟨h.1, fun i hi => wpOp_mono (fun b u k => wpAnyL_any n _ b u k.2) (h.2 i hi)⟩
def waitsB (md : Region.Mode) (ops : Array Oper) (z i : Nat) : Bool := match ops[z]? with
 | some o => o.after.any fun e => Region.binds md e && e.on == i
 | none => false
theorem waits_not {i j : Nat} {l : Array Bool} (h : waitsB md ops j i = true) (hi : i ∈ Region.ready md ops l) : j ∉ Region.ready md ops l := by
 intro hj
 obtain ⟨_, oj, hoj, hall⟩ := mem_ready.1 hj
 unfold waitsB at h
 rw [hoj] at h
 obtain ⟨k, hk, he⟩ := Array.any_eq_true.1 h
 simp only [Bool.and_eq_true, beq_iff_eq] at he
 have h1 := hall _ (Array.getElem_mem hk) he.1
 have h0 := (mem_ready.1 hi).1
 rw [he.2] at h1
 rcases Nat.lt_or_ge i l.size with h' | h'
 · simp [h'] at h0 h1
   rw [h0] at h1
   cases h1
 · simp [Array.getElem?_eq_none h'] at h1
theorem not_waits {i j : Nat} {oj : Oper} {l : Array Bool} (hoj : ops[j]? = some oj) (hi : i ∈ Region.ready md ops l) (hj : j ∈ Region.ready md ops l) : ∀ e ∈ oj.after, Region.binds md e = true → e.on ≠ i := by
 intro e he hb heq
 refine waits_not (i := i) (j := j) ?_ hi hj
 unfold waitsB
 rw [hoj]
 obtain ⟨k, hk, hke⟩ := Array.getElem_of_mem he
 exact Array.any_eq_true.2 ⟨k, hk, by rw [hke, hb, heq]; simp⟩
theorem wpAnyL_first {i : Nat} {oi : Oper} {v : Value} (hi : ops[i]? = some oi) (hz : waitsB md ops z i = true) (hiz : i ≠ z) (hs : Region.noSelect ops = true) (hQ : ∀ c a w, Q (.panic c) (a.put oi.dst v) w → Q (.panic c) a w) :
 ∀ (n : Nat) (l : Array Bool) (a : Act) (w : World),
  (∀ j oj, ops[j]? = some oj → j ≠ i → l.getD j true = false → (∀ e ∈ oj.after, Region.binds md e = true → e.on ≠ i) → oi.apart ops oj = true) →
  i ∈ Region.ready md ops l → YieldsIf P ops S oi v a → S w → wpAnyL P md ops Q S z n (l.setIfInBounds i true) (a.put oi.dst v) w → wpAnyL P md ops Q S z (n + 1) l a w := by
 have hsel := Region.noSelect_spec hs
 intro n
 induction n with
 | zero =>
  intro l a w _ hr hy hS H
  refine ⟨fun e => (by rw [e] at hr; cases hr), fun j hj => ?_⟩
  by_cases hji : j = i
  · subst hji
    exact hy.wpOp hi hS ⟨fun _ => hS, H⟩
  · have h1 := ready_mono hj hji
    rw [H.1] at h1
    cases h1
 | succ n ih =>
  intro l a w hfree hr hy hS H
  refine ⟨fun e => (by rw [e] at hr; cases hr), fun j hj => ?_⟩
  by_cases hji : j = i
  · subst hji
    exact hy.wpOp hi hS ⟨fun _ => hS, H⟩
  · have hjz : j ≠ z := fun e => waits_not (e ▸ hz) hr hj
    obtain ⟨hjun, oj, hoj, _⟩ := mem_ready.1 hj
    have h2 := wpOp_putIf hoj (hfree j oj hoj hji hjun (not_waits hoj hr hj)) (fun cs b => hsel i oi cs b hi) (fun cs b => hsel j oj cs b hoj) hQ hy (H.2 j (ready_mono hj hji))
    refine wpOp_mono (fun b u h3 => ⟨fun _ => h3.2.1 hjz, ih (l.setIfInBounds j true) b u (fun k ok hk hki hun hno => hfree k ok hk hki ?_ hno) (ready_mono hr (Ne.symm hji)) h3.1 (h3.2.1 hjz) ?_⟩) h2
    · by_cases hjk : j = k
      · subst hjk
        exact hjun
      · rw [getD_set_ne true hjk] at hun
        exact hun
    · rw [Array.setIfInBounds_comm _ _ hji]
      exact h3.2.2
theorem roL_begin (S : World → Prop) (z : Nat) {id : Nat} {a : Act} {w : World} (hm : P.follows .mixedOrders = true) (h : wpAnyL P .any ops Q S z ops.size (Array.replicate ops.size false) a (World.drew w)) : (Code.region id ops true).wp P Q a w :=
 wp_region_any hm (wpAnyL_any _ _ _ _ h)
theorem roL_take (i : Nat) (d : Option Tmp) {oi : Oper} {v : Value} {n : Nat} {l : Array Bool} {a : Act} {w : World} (hi : ops[i]? = some oi) (hd : oi.dst = d)
 (hz : waitsB md ops z i = true) (hiz : (i == z) = false) (hs : Region.noSelect ops = true) (hf : Region.free md ops l i = true) (hr : (Region.ready md ops l).contains i = true)
 (hQ : ∀ c a w, Q (.panic c) (a.put oi.dst v) w → Q (.panic c) a w) (hw : Region.wanted oi (yielded ops a.tmps) = true) (hy : ∀ w, S w → (execOp a.eval oi).run P w = .ok (.value v) w) (hS : S w)
 (h : wpAnyL P md ops Q S z n (l.setIfInBounds i true) (a.put d v) w) : wpAnyL P md ops Q S z (n + 1) l a w := by
 subst hd
 exact wpAnyL_first hi hz (by simpa using hiz) hs hQ n l a w (Region.free_spec hi hf) (by simpa using hr) (.inl ⟨hw, hy⟩) hS h
theorem roL_one (i : Nat) {oi : Oper} {n : Nat} {l : Array Bool} {a : Act} {w : World} (hi : ops[i]? = some oi) (hr : Region.ready md ops l = [i])
 (h : ∀ K' : Act → World → Prop, (∀ a w, (i ≠ z → S w) → wpAnyL P md ops Q S z n (l.setIfInBounds i true) a w → K' a w) → if Region.wanted oi (yielded ops a.tmps) = true then Oper.wp P oi a w K' Q else K' (a.put oi.dst undef) w) :
 wpAnyL P md ops Q S z (n + 1) l a w :=
 ⟨fun e => (by rw [hr] at e; cases e), fun k hk => by
  rw [hr] at hk
  simp at hk
  subst hk
  exact wpOp_step hi fun K' hK' => h K' fun a w s x => hK' a w ⟨s, x⟩⟩
theorem roL_done {l : Array Bool} {a : Act} {w : World} (hr : Region.ready md ops l = []) (h : Q .normal a w) : ∀ n, wpAnyL P md ops Q S z n l a w
 | 0 => ⟨hr, h⟩
 | _ + 1 => ⟨fun _ => h, by rw [hr]; simp⟩
theorem op_append_src (w : World) {o : Oper} {a : Act} {K : Act → World → Prop} (d : Option Tmp) (hd : o.dst = d) (s x : Operand) (t tx : TypeId)
 (ho : o.op = .call { callee := .builtin .append, args := #[s, x], argTypes := #[t, tx] })
 (base : Nat) (e : TypeId) (i : TypeInfo) (z : Value) (size bytes : Nat) (ht : P.underlying t = some (.slice e)) (hi : P.info? e = some i) (hz : i.zero = some z)
 (hsize : i.size = size) (hby : i.bytes = bytes) (hzs : z.cells.size = size) (hsz : 0 < size)
 (v : Value) (n : Nat) (xs : List Value) (hv : a.eval s = v) (hown : w.ownsRow base e size v n xs) (y : Value) (m : Nat) (news : List Value) (hx : a.eval x = y) (hs : Src P size tx y m news w)
 (h63 : n + m ≤ maxLen) (hbytes : (n + m) * bytes ≤ 140737488355328) (hbase : base ≤ w.heap.size)
 (h : ∀ v' w', w'.ownsRow base e size v' (n + m) (xs ++ news) → w.grownBy w' v.ownBlock → K (a.put d v') w') :
 Oper.wp P o a w K Q := by
 subst hd
 obtain ⟨v', w', hr, h2, h3, h4⟩ := run_append_src (P := P) w base t tx o.type e i z size bytes ht hi hz hsize hby hzs hsz v n xs hown y m news hs h63 hbytes hbase
 unfold Oper.wp execOp
 simp only [ho, resolve, invoke, builtin, Sem.run_bind, Sem.run_pure, Result.andThen_ok, List.map_toArray, List.map_cons, List.map_nil, hv, hx, hr]
 exact h v' w' h2 h3
end
end Go.Proofs.YtahegpfdbgbioaaGreat
