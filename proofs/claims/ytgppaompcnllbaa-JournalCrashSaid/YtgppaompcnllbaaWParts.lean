/- Layer 4: writeParts, called. Condition: fewer than 900,000 writes wait. -/
import Derived.Test.YtgppaompcnllbaaRound
namespace Go.Proofs.Ytgppaompcnllbaa
open Go.RowKit Go.Shelf
attribute [local go_sem] Oper.semAt_some

/-- Between two parts: what has been written, and what memory holds. -/
structure WpI (S : Nat → Prop) (W3 : World) (b B2 B3 nx : Nat) (q : St × Int) (E : Int) (W : World) (T : Nat → Prop) : Prop where
  d : Ds T W b q.1
  tight : Tight T W
  sub : ∀ k, T k → S k ∨ W3.heap.size ≤ k
  keep : Ks (fun k => S k ∨ k = B2 ∨ k = B3) W3 W
  res : W.heap[B2]? = some (.cells #[.int .i64 E] 27 (0, 0))
  at_ : W.heap[B3]? = some (.cells #[.int .i64 nx] 3 (0, 0))
theorem WpI.grown {S T : Nat → Prop} {W3 W W' : World} {b B2 B3 nx : Nat} {q : St × Int} {E : Int} {row : Option Nat} (h : WpI S W3 b B2 B3 nx q E W T) (hg : W.grownBy W' row) (hr : ∀ r, row = some r → W3.heap.size ≤ r ∧ ∃ o : Obj, W.heap[r]? = some o ∧ o.isCells = false) : WpI S W3 b B2 B3 nx q E W' T :=
  ⟨h.d.same hg.size (h.tight.grown hg fun r e => (hr r e).2).2, (h.tight.grown hg fun r e => (hr r e).2).1, h.sub, h.keep.grown hg fun k e => .inr (hr k e).1,
    cells_grown h.res hg fun r e => (hr r e).2, cells_grown h.at_ hg fun r e => (hr r e).2⟩
theorem part_len (l : List UInt8) (x : Nat) : (partB l x).length = 1 + (ptTo l.length x - 63 * x) := by
  simp only [partB, List.length_cons, chunk_len, ptTo]; omega
theorem part_bv (l : List UInt8) (x : Nat) : ([.int .u8 0] : List Value) ++ ((bv l).drop (63 * x)).take (ptTo l.length x - 63 * x) = bv (partB l x) := by
  rw [bv_drop, bv_take]
  have : (l.drop (63 * x)).take (ptTo l.length x - 63 * x) = chunk l x := by
    unfold chunk ptTo
    rw [List.take_eq_take_iff, List.length_drop]
    omega
  rw [this]; rfl

theorem wp_end {S T : Nat → Prop} {w w3 X : World} {b B2 B3 D : Nat} {s' : St} (hsz : ∀ k, S k → k < w.heap.size) (b3 : Below w.heap.size w w3) (h2 : w.heap.size ≤ B2) (h3 : w.heap.size ≤ B3) (hk : Ks (fun k => S k ∨ k = B2 ∨ k = B3) w3 X) (hd : Ds T X b s') (hsub : ∀ k, T k → S k ∨ w3.heap.size ≤ k) (hD : w3.heap.size ≤ D) (hT : ¬ T D) (o : Obj) :
    Ds (Grow S w (X.putObj D o)) (X.putObj D o) b s' ∧ Ks S w (X.putObj D o) := by
  have hs := (grownBy_putObj' X D o).size
  have h1 := hk.size
  have hs3 := b3.size
  refine ⟨(hd.same (w' := X.putObj D o) hs fun k e => World.putObj_heap_other fun e2 => hT (by rw [← e2]; exact e)).wide (fun k e => ?_) (fun k e => ?_), ?_⟩
  · rcases hsub k e with e2 | e2
    · exact .inl e2
    · exact .inr ⟨by omega, by have := hd.size k e; omega⟩
  · rcases e with e | e
    · have := hsz k e; omega
    · exact e.2
  · refine (Ks.grown (S := S) ?_ (grownBy_putObj' X D o) fun k e => by cases e; exact .inr (by omega))
    exact (Ks.all b3).then hk fun i e => by
      rcases e with e | e | e
      · exact .inl e
      · exact .inr (by omega)
      · exact .inr (by omega)

set_option maxRecDepth 100000 in
set_option maxHeartbeats 4000000 in
theorem wparts_in {S L : Nat → Prop} {w : World} {g b : Nat} {s : St} {t : LSt} (n : Nat) (hn : 6 ≤ n) (hD : Ds S w b s) (hL : Lg L w g b t) (hSL : ∀ k, S k → ¬ L k) {A : Option Addr} {c : Nat} {l : List UInt8} (hr : Rd w w.heap.size 1 A l.length c (bv l)) (hA : 0 < l.length → ∀ q o, A = some ⟨q, o, none⟩ → ¬ S q) (hl : l.length ≤ 4096) (hw : s.waits.length < 800000) :
    CallsIn Fence.wide n Try.prog 32 #[.pointer (some ⟨g, 0, none⟩), .slice A l.length c] w fun e w' => e = .returned (.int .i64 (ptE s t l)) ∧ Ds (Grow S w w') w' b (ptS s t l) ∧ Ks S w w' := by
  have kp := fun W => parts_any W l.length
  have hsz := hD.size
  obtain ⟨rv, rows, hL⟩ := hL
  have c1 := hL.c1
  have hgs := hL.size g hL.hg
  have c1V := fun (o1 o2 o3 : Obj) => (show (((w.alloc o1).alloc o2).alloc o3).cell? ⟨g, 1, none⟩ = some (.int .i64 t.next) from by
    rw [World.cell?_alloc_lt _ _ _ (by simp; omega), World.cell?_alloc_lt _ _ _ (by simp; omega), World.cell?_alloc_lt _ _ _ hgs]; exact c1)
  clear c1
  refine callsIn_of_wp_marks Try.func32 rfl trivial ?_ rfl
  simp only [Try.ntmps32, List.size_toArray, List.length_cons, List.length_nil, Nat.reduceAdd, Nat.reduceSub, Array.replicate_succ, Array.replicate_zero, List.push_toArray, List.append_toArray, List.nil_append, List.cons_append]
  gi_wp2_with ((refine ⟨trivial, fun e => (by cases e), ?_⟩; (with_reducible refine (callsIn_wide.2 (kp _)).mono ?_); rintro e w3 ⟨rfl, hw3⟩))
  have s3 : w3.heap.size = w.heap.size + 1 + 1 + 1 + 1 + 1 := by rw [hw3]; simp
  have b3 : Below w.heap.size w w3 := by
    rw [hw3]
    exact (((((Below.refl _ _).alloc (Nat.le_refl _) _).alloc (by simp) _).alloc (by simp; omega) _).alloc (by simp; omega) _).alloc (by simp; omega) _
  have h0 : w3.heap[w.heap.size]? = some (.cells #[.pointer (some ⟨g, 0, none⟩)] 30 (0, 0)) := by
    rw [hw3, Below.heap_alloc _ _ _ (by simp only [World.size_alloc]; omega), Below.heap_alloc _ _ _ (by simp only [World.size_alloc]; omega), Below.heap_alloc _ _ _ (by simp only [World.size_alloc]; omega), Below.heap_alloc _ _ _ (by simp only [World.size_alloc]; omega)]; exact heap_alloc_new _ _
  have h1 : w3.heap[w.heap.size + 1]? = some (.cells #[.slice A l.length c] 36 (0, 0)) := by
    rw [hw3, Below.heap_alloc _ _ _ (by simp only [World.size_alloc]; omega), Below.heap_alloc _ _ _ (by simp only [World.size_alloc]; omega), Below.heap_alloc _ _ _ (by simp only [World.size_alloc]; omega)]; simpa using heap_alloc_new (w.alloc _) _
  have h2 : w3.heap[w.heap.size + 1 + 1]? = some (.cells #[.int .i64 0] 27 (0, 0)) := by
    rw [hw3, Below.heap_alloc _ _ _ (by simp only [World.size_alloc]; omega), Below.heap_alloc _ _ _ (by simp only [World.size_alloc]; omega)]; simpa using heap_alloc_new ((w.alloc _).alloc _) _
  have h3 : w3.heap[w.heap.size + 1 + 1 + 1]? = some (.cells #[.int .i64 t.next] 3 (0, 0)) := by
    rw [hw3, Below.heap_alloc _ _ _ (by simp only [World.size_alloc]; omega)]; simpa using heap_alloc_new (((w.alloc _).alloc _).alloc _) _
  have h4 : w3.heap[w.heap.size + 1 + 1 + 1 + 1]? = some (.cells #[.int .i64 l.length] 3 (0, 0)) := by
    rw [hw3]; simpa using heap_alloc_new ((((w.alloc _).alloc _).alloc _).alloc _) _
  rw [← hw3]
  clear hw3 kp c1V
  have hrd3 : Rd w3 w3.heap.size 1 A l.length c (bv l) := (hr.below b3).more b3.size
  have hAw : 0 < l.length → ∀ q o, A = some ⟨q, o, none⟩ → q < w.heap.size := fun h q o e => by
    obtain ⟨q', o', e', hq, _⟩ := hr.at_ h
    rw [e] at e'; cases e'; exact hq
  obtain ⟨T0, hT0, hDT, hTt⟩ := (hD.below b3).tight
  have hg3 : w3.heap[g]? = w.heap[g]? := b3.block g hgs
  have hSg : ¬ S g := fun e => hSL g e hL.hg
  have hseq := parts_stop (m := l.length) (n - 1) (by omega) (by omega) (w.heap.size + 1 + 1 + 1 + 1) w3 ⟨by omega, by rw [cell_of_row _ _ _ _ _ _ h4]; rfl⟩
  refine wpIn_rangeFunc_ownH (w0 := w3) rfl (by omega) (gf := 54) (lb := #[.pointer (some ⟨w.heap.size + 1 + 1 + 1 + 1, 0, none⟩)]) rfl trivial (enters_of Try.func54 (by kernel_rfl) rfl)
    hseq (fun h k => h.trans k) (fun W l o o' h1 _ _ _ => KpB.putObj W l o' (by omega)) (Below.refl _ _) (fun _ => rfl)
    (fun pre W => (wrF s (wps t l pre)).2 = 0 ∧ ∃ T, WpI S w3 b (w.heap.size + 1 + 1) (w.heap.size + 1 + 1 + 1) (t.next + pre.length) (wrF s (wps t l pre)) 0 W T)
    (fun c pre W => c = .ret ∧ (wrF s (wps t l pre)).2 ≠ 0 ∧ ∃ T, WpI S w3 b (w.heap.size + 1 + 1) (w.heap.size + 1 + 1 + 1) (t.next + pre.length) (wrF s (wps t l pre)) (wrF s (wps t l pre)).2 W T)
    (fun pre X Y row hI hg hr => ⟨hI.1, by obtain ⟨T, hI⟩ := hI.2; exact ⟨T, hI.grown hg hr⟩⟩)
    (fun c pre X Y row hI hg hr => ⟨hI.1, hI.2.1, by obtain ⟨T, hI⟩ := hI.2.2; exact ⟨T, hI.grown hg hr⟩⟩)
    ⟨rfl, T0, ⟨hDT, hTt, fun k e => .inl (hT0 k e), Ks.refl _ _, h2, h3⟩⟩
    (fun x a' _ => a' = { tmps := #[.pointer (some ⟨g, 0, none⟩), .slice A l.length c, .pointer (some ⟨w.heap.size, 0, none⟩), .pointer (some ⟨w.heap.size + 1, 0, none⟩), .pointer (some ⟨w.heap.size + 1 + 1, 0, none⟩), .pointer (some ⟨w.heap.size + 1 + 1 + 1, 0, none⟩), .int .i64 (63 * x.1 : Nat), .int .i64 (ptTo l.length x.1 : Nat), undef, .pointer (some ⟨g, 0, none⟩), .pointer (some ⟨g, 0, none⟩), .pointer (some ⟨g, 1, none⟩), .int .i64 t.next, .slice A l.length c, .int .i64 l.length, .func (.func 54) #[] #[.pointer (some ⟨w.heap.size + 1 + 1 + 1 + 1, 0, none⟩)], .int .i64 (63 * x.1 : Nat), .int .i64 (ptTo l.length x.1 : Nat), undef, undef, undef, undef, undef, undef, undef, undef, undef, undef, undef, undef, undef, undef, undef, undef, undef, undef, undef, undef, undef, undef], defers := [] })
    (fun x a' _ X Y row hs _ _ => hs)
    ?assign ?body ?done ?stop
  case assign =>
    intro l0 pre x W K hI hK
    simp only [ptEnc]
    gi_wp2
    exact hK _ _ (KeepsFrom.refl _ _) (KpB.refl _ _) hI rfl
  case body =>
    rintro l0 pre x a' W hl2 ⟨r, hrr⟩ ⟨hok, T, hI⟩ rfl hlt
    obtain ⟨xj, hxj⟩ := x
    have hx63 := pn_lt.1 hxj
    obtain ⟨q, o, rfl, hq, hcc⟩ := hr.at_ (by omega)
    obtain ⟨P, hP⟩ : ∃ P, t.next + pre.length = P := ⟨_, rfl⟩
    rw [hP] at hI
    have hle := hL.ok.le
    have hmo := hL.ok.most
    have hpl := pn_le l.length
    have hPz : (P : Int) ≤ 70000 := by omega
    have HP := Lib.hid hP
    clear hP
    have c3 : W.cell? ⟨w.heap.size + 1 + 1 + 1, 0, none⟩ = some (.int .i64 P) := by rw [cell_of_row _ _ _ _ _ _ hI.at_]; rfl
    have f3 : W.frozen? ⟨w.heap.size + 1 + 1 + 1, 0, none⟩ = false := frozen_of_row _ _ _ _ _ hI.at_
    have hlt3 : w.heap.size + 1 + 1 + 1 < W.heap.size := by have := hI.keep.size; omega
    obtain ⟨y, hy⟩ : ∃ y, ptTo l.length xj = y := ⟨_, rfl⟩
    have hy1 : 63 * xj < y := by rw [← hy]; unfold ptTo; omega
    have hy2 : y ≤ l.length := by rw [← hy]; unfold ptTo; omega
    have hcap := hr.cap
    have hcm := hr.capm
    have hy3 : (y : Int) ≤ (c : Int) := by omega
    have hy4 : 63 * (xj : Int) ≤ (y : Int) := by omega
    have hy5 : ¬ c = 63 * xj := by omega
    have hy7 : 0 ≤ 63 * (xj : Int) := by omega
    have hy8 : (63 * (xj : Int)).toNat = 63 * xj := by omega
    have hy6 : (c : Int) ≤ 9223372036854775807 := by simp only [maxLen] at hcm; omega
    rw [hy]
    have HY := Lib.hid hy
    clear hy
    gi_wp2
    obtain ⟨W1, hW1⟩ : ∃ W1, W.setCell ⟨w.heap.size + 1 + 1 + 1, 0, none⟩ (.int .i64 ((P : Int) + 1)) = W1 := ⟨_, rfl⟩
    rw [hW1]
    have hq3 : q ≠ w.heap.size + 1 + 1 + 1 := by omega
    have hk1 : ∀ j, j < w3.heap.size → ¬ S j → j ≠ w.heap.size + 1 + 1 → j ≠ w.heap.size + 1 + 1 + 1 → W1.heap[j]? = w3.heap[j]? := fun j a1 a2 a3 a4 => by
      rw [← hW1]
      exact (Below.heap_setCell W ⟨w.heap.size + 1 + 1 + 1, 0, none⟩ _ j a4).trans (hI.keep.block j a1 (fun e => by rcases e with e | e | e; exact a2 e; exact a3 e; exact a4 e))
    have hnS : ∀ j, w.heap.size ≤ j → ¬ S j := fun j a1 a2 => by have := hsz j a2; omega
    have s0 : W1.drew.cell? ⟨w.heap.size, 0, none⟩ = some (.pointer (some ⟨g, 0, none⟩)) := (World.cell?_of_block (a := ⟨w.heap.size, 0, none⟩) (hk1 (w.heap.size) (by omega) (hnS (w.heap.size) (by omega)) (by omega) (by omega))).trans (by rw [cell_of_row _ _ _ _ _ _ h0]; rfl)
    have s1 : W1.drew.cell? ⟨w.heap.size + 1, 0, none⟩ = some (.slice (some ⟨q, o, none⟩) l.length c) := (World.cell?_of_block (a := ⟨w.heap.size + 1, 0, none⟩) (hk1 (w.heap.size + 1) (by omega) (hnS (w.heap.size + 1) (by omega)) (by omega) (by omega))).trans (by rw [cell_of_row _ _ _ _ _ _ h1]; rfl)
    have s2 : W1.drew.cell? ⟨g, 0, none⟩ = some (.pointer (some ⟨b, 0, none⟩)) := (World.cell?_of_block (a := ⟨g, 0, none⟩) ((hk1 g (by omega) hSg (by omega) (by omega)).trans hg3)).trans hL.c0
    have s3' : W1.drew.cell? ⟨w.heap.size + 1 + 1 + 1, 0, none⟩ = some (.int .i64 ((P : Int) + 1)) := by rw [← hW1]; exact World.cell?_setCell_same _ _ _ (by rw [c3])
    have hS := And.intro s0 (And.intro s1 (And.intro s2 s3'))
    have hkeep : ∀ W' : World, (∀ j, j < w3.heap.size → ¬ S j → W'.heap[j]? = W1.drew.heap[j]?) → W'.cell? ⟨w.heap.size, 0, none⟩ = some (.pointer (some ⟨g, 0, none⟩)) ∧ W'.cell? ⟨w.heap.size + 1, 0, none⟩ = some (.slice (some ⟨q, o, none⟩) l.length c) ∧ W'.cell? ⟨g, 0, none⟩ = some (.pointer (some ⟨b, 0, none⟩)) ∧ W'.cell? ⟨w.heap.size + 1 + 1 + 1, 0, none⟩ = some (.int .i64 ((P : Int) + 1)) := fun W' h =>
      ⟨(World.cell?_of_block (a := ⟨w.heap.size, 0, none⟩) (h (w.heap.size) (by omega) (hnS (w.heap.size) (by omega)))).trans s0, (World.cell?_of_block (a := ⟨w.heap.size + 1, 0, none⟩) (h (w.heap.size + 1) (by omega) (hnS (w.heap.size + 1) (by omega)))).trans s1,
        (World.cell?_of_block (a := ⟨g, 0, none⟩) (h g (by omega) hSg)).trans s2, (World.cell?_of_block (a := ⟨w.heap.size + 1 + 1 + 1, 0, none⟩) (h (w.heap.size + 1 + 1 + 1) (by omega) (hnS (w.heap.size + 1 + 1 + 1) (by omega)))).trans s3'⟩
    clear s0 s1 s2 s3' c3 f3
    have hs1 : W1.heap.size = W.heap.size := by rw [← hW1]; simp [World.setCell]
    have hws := hI.keep.size
    have hd1 : Ds T W1 b (wrF s (wps t l pre)).1 ∧ Tight T W1 := by
      have hT3 : ∀ k, T k → W1.heap[k]? = W.heap[k]? := fun k e => by
        rw [← hW1]
        refine Below.heap_setCell W ⟨w.heap.size + 1 + 1 + 1, 0, none⟩ _ k (fun e2 => ?_)
        subst e2
        rcases hI.sub _ e with e | e
        · exact hnS _ (by show w.heap.size ≤ _ + 1 + 1 + 1; omega) e
        · have : w3.heap.size ≤ w.heap.size + 1 + 1 + 1 := e
          omega
      exact ⟨hI.d.same (by omega) hT3, fun k e => by obtain ⟨cs, tt, f, h⟩ := hI.tight k e; exact ⟨cs, tt, f, (hT3 k e).trans h⟩⟩
    have hk31 : Ks (fun k => S k ∨ k = w.heap.size + 1 + 1 ∨ k = w.heap.size + 1 + 1 + 1) w3 W1 := by rw [← hW1]; exact hI.keep.setCell (.inl (.inr (.inr rfl))) _
    have ko1 : KeepsOthers W W1 := by rw [← hW1]; exact KeepsOthers.setCell _ _ _
    obtain ⟨i0, hi, hz0, hz1, hz2⟩ := info_parts infoF
    have hlit := own_lit W1.drew #[.int .u8 0] 5 1 1 W1.heap.size rfl (by simp [maxLen]) (Nat.le_refl _)
    have hda := (drewDs hd1.1).alloc (.cells #[.int .u8 0] 5)
    have hrda : Rd (W1.drew.alloc (.cells #[.int .u8 0] 5)) (W1.drew.alloc (.cells #[.int .u8 0] 5)).heap.size 1 (some ⟨q, o, none⟩) l.length c (bv l) :=
      rd_same hrd3 (by simp; omega) fun _ q' o' e => by
        cases e
        refine (Below.heap_alloc W1.drew _ _ (by show q < W1.heap.size; omega)).trans ?_
        exact hk1 q (by omega) (hA (by omega) q o rfl) (by omega) (by omega)
    have hrdc := (hrda.cutN (k := 63 * xj) (by omega) hy5).pre (k := y - 63 * xj) (by omega)
    rw [Nat.mul_one, show (Option.map (fun a => a.add (63 * xj)) (some (⟨q, o, none⟩ : Addr))) = some ⟨q, o + 63 * xj, none⟩ from by simp [Addr.add_lit]] at hrdc
    have hsrc := Rd.src (P := Try.prog) Try.underlying36 hrdc (fun u hu => bv_one l u (List.mem_of_mem_drop (List.mem_of_mem_take hu)))
    have hpb := part_bv l xj
    have hpn := part_len l xj
    rw [HY.out] at hpb hpn
    have Hpb := Lib.hid hpb
    have Hpn := Lib.hid hpn
    have h64 := partB_le l xj
    generalize hpart : partB l xj = pb at *
    have Hpart := Lib.hid hpart
    have hws1 : w3.heap.size ≤ W1.heap.size := by omega
    have Hs1 := Lib.hid hs1
    clear hpart hpb hpn hrda hrdc hs1
    refine wpIn_region_outside (fun W' => W'.cell? ⟨w.heap.size, 0, none⟩ = some (.pointer (some ⟨g, 0, none⟩)) ∧ W'.cell? ⟨w.heap.size + 1, 0, none⟩ = some (.slice (some ⟨q, o, none⟩) l.length c) ∧ W'.cell? ⟨g, 0, none⟩ = some (.pointer (some ⟨b, 0, none⟩)) ∧ W'.cell? ⟨w.heap.size + 1 + 1 + 1, 0, none⟩ = some (.int .i64 ((P : Int) + 1))) (by kernel_rfl) (by kernel_rfl) ?_
    refine roH_take 0 (some 20) (v := ?va0) rfl rfl (by kernel_rfl) (by kernel_rfl) (by kernel_rfl) (fun _ _ _ h => h) (by rfl) ?ya0 hS ?ra0
    case ya0 => (intro w hSw; obtain ⟨s0, s1, s2, s3⟩ := hSw; go_simp; try with_reducible rfl)
    simp only [Act.put, List.setIfInBounds_toArray, List.set_cons_zero, List.set_cons_succ]
    refine roH_take 1 (some 21) (v := ?va1) rfl rfl (by kernel_rfl) (by kernel_rfl) (by kernel_rfl) (fun _ _ _ h => h) (by rfl) ?ya1 hS ?ra1
    case ya1 => (intro w hSw; obtain ⟨s0, s1, s2, s3⟩ := hSw; go_simp; try with_reducible rfl)
    simp only [Act.put, List.setIfInBounds_toArray, List.set_cons_zero, List.set_cons_succ]
    refine roH_take 2 (some 22) (v := ?va2) rfl rfl (by kernel_rfl) (by kernel_rfl) (by kernel_rfl) (fun _ _ _ h => h) (by rfl) ?ya2 hS ?ra2
    case ya2 => (intro w hSw; obtain ⟨s0, s1, s2, s3⟩ := hSw; go_simp; try with_reducible rfl)
    simp only [Act.put, List.setIfInBounds_toArray, List.set_cons_zero, List.set_cons_succ]
    refine roH_take 3 (some 23) (v := ?va3) rfl rfl (by kernel_rfl) (by kernel_rfl) (by kernel_rfl) (fun _ _ _ h => h) (by rfl) ?ya3 hS ?ra3
    case ya3 => (intro w hSw; obtain ⟨s0, s1, s2, s3⟩ := hSw; go_simp; try with_reducible rfl)
    simp only [Act.put, List.setIfInBounds_toArray, List.set_cons_zero, List.set_cons_succ]
    refine roH_take 4 (some 24) (v := ?va4) rfl rfl (by kernel_rfl) (by kernel_rfl) (by kernel_rfl) (fun _ _ _ h => h) (by rfl) ?ya4 hS ?ra4
    case ya4 => (intro w hSw; obtain ⟨s0, s1, s2, s3⟩ := hSw; go_simp; try with_reducible rfl)
    simp only [Act.put, List.setIfInBounds_toArray, List.set_cons_zero, List.set_cons_succ]
    refine roH_take 6 (some 26) (v := ?va6) rfl rfl (by kernel_rfl) (by kernel_rfl) (by kernel_rfl) (fun _ _ _ h => h) (by rfl) ?ya6 hS ?ra6
    case ya6 => (intro w hSw; obtain ⟨s0, s1, s2, s3⟩ := hSw; go_simp; try with_reducible rfl)
    simp only [Act.put, List.setIfInBounds_toArray, List.set_cons_zero, List.set_cons_succ]
    refine roH_take 7 (some 27) (v := ?va7) rfl rfl (by kernel_rfl) (by kernel_rfl) (by kernel_rfl) (fun _ _ _ h => h) (by rfl) ?ya7 hS ?ra7
    case ya7 => (intro w hSw; obtain ⟨s0, s1, s2, s3⟩ := hSw; go_simp; try with_reducible rfl)
    simp only [Act.put, List.setIfInBounds_toArray, List.set_cons_zero, List.set_cons_succ]
    refine roH_take 8 (some 28) (v := ?va8) rfl rfl (by kernel_rfl) (by kernel_rfl) (by kernel_rfl) (fun _ _ _ h => h) (by rfl) ?ya8 hS ?ra8
    case ya8 => (intro w hSw; obtain ⟨s0, s1, s2, s3⟩ := hSw; go_simp; try with_reducible rfl)
    simp only [Act.put, List.setIfInBounds_toArray, List.set_cons_zero, List.set_cons_succ]
    refine roH_take 9 (some 29) (v := ?va9) rfl rfl (by kernel_rfl) (by kernel_rfl) (by kernel_rfl) (fun _ _ _ h => h) (by rfl) ?ya9 hS ?ra9
    case ya9 => (intro w hSw; obtain ⟨s0, s1, s2, s3⟩ := hSw; go_simp; try with_reducible rfl)
    simp only [Act.put, List.setIfInBounds_toArray, List.set_cons_zero, List.set_cons_succ]
    refine roH_one 5 rfl (by kernel_rfl) (fun K hK => ?_)
    go_simp
    refine hK _ _ (hkeep _ (fun j hj _ => Below.heap_alloc _ _ _ (by show j < W1.heap.size; omega))) ?_
    clear hK K
    refine roH_one 10 rfl (by kernel_rfl) (fun K hK => ?_)
    refine step_append_src (some 30) rfl rfl (.tmp 25) (.tmp 29) 36 36 rfl W1.heap.size 5 i0 (.int .u8 0) 1 1 Try.underlying36 hi hz0 hz1 hz2 rfl (by decide) (.slice (some ⟨W1.drew.heap.size, 0, none⟩) 1 1) 1 [.int .u8 0] rfl hlit _ (y - 63 * xj) _ rfl hsrc (by simp only [maxLen]; omega) (by omega) (by simp) ?_
    intro v1 w4 hown4 hg4 hat4
    simp only [Act.put, List.setIfInBounds_toArray, List.set_cons_zero, List.set_cons_succ]
    rw [← Hpn.out, Hpb.out] at hown4
    obtain ⟨A4, c4, rfl, hr4⟩ := Rd.own hown4
    have hat := own_at hown4
    have hN : W1.drew.heap.size = W1.heap.size := rfl
    have hrow : ∀ j, j < W1.heap.size → w4.heap[j]? = W1.heap[j]? := fun j hj => (hg4.block j (by simp; omega) (fun e => by cases e; exact Nat.lt_irrefl _ hj)).trans (Below.heap_alloc W1.drew _ _ hj)
    have hs4 : W1.heap.size ≤ w4.heap.size := by have := hg4.size; simp at this; omega
    have hd4 : Ds T w4 b (wrF s (wps t l pre)).1 ∧ Tight T w4 := by
      have hT4 : ∀ k, T k → w4.heap[k]? = W1.heap[k]? := fun k e => hrow k (hd1.1.size k e)
      exact ⟨hd1.1.same hs4 hT4, fun k e => by obtain ⟨cs, tt, f, h⟩ := hd1.2 k e; exact ⟨cs, tt, f, (hT4 k e).trans h⟩⟩
    have hk34 : Ks (fun k => S k ∨ k = w.heap.size + 1 + 1 ∨ k = w.heap.size + 1 + 1 + 1) w3 w4 := (hk31.drew.alloc _).grown hg4 fun k e => by cases e; exact .inr hws1
    have ko4 : KeepsOthers W w4 := ko1.trans ((KeepsOthers.drew W1).trans ((KeepsOthers.alloc W1.drew _).trans (KeepsOthers.of_grownBy hg4 fun j o e ho => by
      cases e
      have := heap_alloc_new W1.drew (.cells #[.int .u8 0] 5)
      rw [this] at ho; cases ho; rfl)))
    have kW := dWrite hd4.1 ((P : Int) + 1) hr4 (fun _ b' o e hs => by have h1 := hat _ _ e; have h2 := hd1.1.size b' hs; omega) (by have h1 := wrF_waits s (wps t l pre); rw [wps_len] at h1; have h2 := hd1.1.size; omega)
    obtain ⟨E, hE⟩ : ∃ E, wrE (wrF s (wps t l pre)).1 ((P : Int) + 1) pb = E := ⟨_, rfl⟩
    rw [hE] at kW
    have HE := Lib.hid hE
    refine hK _ _ (hkeep _ fun j hj _ => hrow j (by omega)) ?_
    clear hK K hE hlit hda hsrc hg4 hat4 hown4 hr4
    refine roH_one 11 rfl (by kernel_rfl) (fun K hK => ?_)
    go_simp
    (with_reducible refine kW.mono ?_)
    rintro e w5 ⟨rfl, hd5, hk5⟩
    refine hK _ _ (hkeep _ fun j hj hnj => (hk5.block j (by omega) (fun e => by rcases hI.sub j e with e | e; exact hnj e; omega)).trans (hrow j (by omega))) ?_
    clear hK K
    refine roH_one 12 rfl (by kernel_rfl) (fun K hK => ?_)
    go_simp
    refine hK _ _ (hkeep _ fun j hj hnj => (hk5.block j (by omega) (fun e => by rcases hI.sub j e with e | e; exact hnj e; omega)).trans (hrow j (by omega))) ?_
    clear hK K
    refine wpAnyH_done (by kernel_rfl) ?_ _
    simp only [OnlyN]
    have hk35 : Ks (fun k => S k ∨ k = w.heap.size + 1 + 1 ∨ k = w.heap.size + 1 + 1 + 1) w3 w5 := hk34.then hk5 fun k e => by
      rcases hI.sub k e with e | e
      · exact .inl (.inl e)
      · exact .inr e
    have ko5 : KeepsOthers W w5 := ko4.trans (hk5.others hd4.2)
    obtain ⟨T5, hT5, hD5, ht5⟩ := hd5.tight
    have hsub5 : ∀ k, T5 k → S k ∨ w3.heap.size ≤ k := fun k e => by
      rcases hT5 k e with e | e
      · exact hI.sub k e
      · exact .inr (by omega)
    have hnb : ∀ k, w.heap.size ≤ k → k < w3.heap.size → ¬ T k := fun k h1 h2 e => by
      rcases hI.sub k e with e | e
      · exact hnS k h1 e
      · omega
    have hfar : ∀ k, w.heap.size ≤ k → k < w3.heap.size → w5.heap[k]? = W1.heap[k]? := fun k h1 h2 => (hk5.block k (by omega) (hnb k h1 h2)).trans (hrow k (by omega))
    have h2W : W1.heap[w.heap.size + 1 + 1]? = some (.cells #[.int .i64 0] 27 (0, 0)) := by
      rw [← hW1]; exact (Below.heap_setCell W ⟨w.heap.size + 1 + 1 + 1, 0, none⟩ _ (w.heap.size + 1 + 1) (by show w.heap.size + 1 + 1 ≠ w.heap.size + 1 + 1 + 1; omega)).trans hI.res
    have h3W : W1.heap[w.heap.size + 1 + 1 + 1]? = some (.cells #[.int .i64 ((P : Int) + 1)] 3 (0, 0)) := by
      rw [← hW1]; exact heap_setCell_same W (w.heap.size + 1 + 1 + 1) 0 _ _ _ hI.at_
    have h25 := (hfar (w.heap.size + 1 + 1) (by omega) (by omega)).trans h2W
    have h35 := (hfar (w.heap.size + 1 + 1 + 1) (by omega) (by omega)).trans h3W
    have h45 : w5.heap[w.heap.size + 1 + 1 + 1 + 1]? = W.heap[w.heap.size + 1 + 1 + 1 + 1]? := (hfar (w.heap.size + 1 + 1 + 1 + 1) (by omega) (by omega)).trans (by rw [← hW1]; exact Below.heap_setCell W ⟨w.heap.size + 1 + 1 + 1, 0, none⟩ _ (w.heap.size + 1 + 1 + 1 + 1) (by show w.heap.size + 1 + 1 + 1 + 1 ≠ w.heap.size + 1 + 1 + 1; omega))
    have hPi : ((t.next + 1 + pre.length : Nat) : Int) = (P : Int) + 1 := by have := HP.out; omega
    have hsn : wrF s (wps t l (pre ++ [⟨xj, hxj⟩])) = (wrS (wrF s (wps t l pre)).1 ((P : Int) + 1) pb, E) := by
      rw [wps_snoc, wrF_snoc hok, hPi, Hpart.out, HE.out]
    have hPn : t.next + (pre ++ [(⟨xj, hxj⟩ : Fin (pn l.length))]).length = P + 1 := by have := HP.out; simp; omega
    have c2 : w5.cell? ⟨w.heap.size + 1 + 1, 0, none⟩ = some (.int .i64 0) := by rw [cell_of_row _ _ _ _ _ _ h25]; rfl
    have f2 : w5.frozen? ⟨w.heap.size + 1 + 1, 0, none⟩ = false := frozen_of_row _ _ _ _ _ h25
    have Hsn := Lib.hid hsn
    have HPn := Lib.hid hPn
    clear hsn hPn hPi kW hkeep hS
    by_cases hE0 : E = 0
    · subst hE0
      gi_wp2
      refine ⟨ko5.from _, ⟨ko5.size, h45⟩, by rw [Hsn.out], T5, ?_⟩
      rw [Hsn.out, HPn.out]
      exact ⟨hD5, ht5, hsub5, hk35, h25, h35⟩
    · have hEb : (E != 0) = true := by simp [hE0]
      gi_wp2
      have hT2 : ∀ k, T5 k → (w5.setCell ⟨w.heap.size + 1 + 1, 0, none⟩ (.int .i64 E)).heap[k]? = w5.heap[k]? := fun k e => Below.heap_setCell _ _ _ _ (fun e2 => by
        have e3 : k = w.heap.size + 1 + 1 := e2
        rcases hsub5 k e with e | e
        · exact hnS k (by omega) e
        · omega)
      refine ⟨(ko5.trans (KeepsOthers.setCell _ _ _)).from _, rfl, by rw [Hsn.out]; exact hE0, T5, ?_⟩
      rw [Hsn.out, HPn.out]
      refine ⟨hD5.same (by simp [World.setCell]) hT2, fun k e => by obtain ⟨cs, tt, f, h⟩ := ht5 k e; exact ⟨cs, tt, f, (hT2 k e).trans h⟩, hsub5, hk35.setCell (.inl (.inr (.inl rfl))) _, heap_setCell_same w5 (w.heap.size + 1 + 1) 0 _ _ _ h25, ?_⟩
      exact (Below.heap_setCell w5 ⟨w.heap.size + 1 + 1, 0, none⟩ _ (w.heap.size + 1 + 1 + 1) (by show w.heap.size + 1 + 1 + 1 ≠ w.heap.size + 1 + 1; omega)).trans h35
  case done =>
    rintro D ys W hD2 rfl ⟨hok, T, hI⟩ hK
    have hnS : ∀ j, w.heap.size ≤ j → ¬ S j := fun j a1 a2 => by have := hsz j a2; omega
    have hk1 : ∀ j, j < w3.heap.size → ¬ S j → j ≠ w.heap.size + 1 + 1 → j ≠ w.heap.size + 1 + 1 + 1 → W.heap[j]? = w3.heap[j]? := fun j a1 a2 a3 a4 => hI.keep.block j a1 (fun e => by rcases e with e | e | e; exact a2 e; exact a3 e; exact a4 e)
    have s0 : W.cell? ⟨w.heap.size, 0, none⟩ = some (.pointer (some ⟨g, 0, none⟩)) := (World.cell?_of_block (a := ⟨w.heap.size, 0, none⟩) (hk1 (w.heap.size) (by omega) (hnS (w.heap.size) (by omega)) (by omega) (by omega))).trans (by rw [cell_of_row _ _ _ _ _ _ h0]; rfl)
    have s2 : W.cell? ⟨g, 0, none⟩ = some (.pointer (some ⟨b, 0, none⟩)) := (World.cell?_of_block (a := ⟨g, 0, none⟩) ((hk1 g (by omega) hSg (by omega) (by omega)).trans hg3)).trans hL.c0
    have hww := wrF_waits s (wps t l (ptAll l.length))
    rw [wps_len, ptAll_len] at hww
    have hpl := pn_le l.length
    have hws := hI.keep.size
    have kF := dFlush hI.d (by omega)
    have hpt : ptW s t l = wrF s (wps t l (ptAll l.length)) := rfl
    rw [← hpt] at kF hok hI
    have hB2 : ¬ T (w.heap.size + 1 + 1) := fun e => by
      rcases hI.sub _ e with e | e
      · exact hnS _ (by omega) e
      · omega
    have hDK : ¬ T D := fun e => hI.tight.not hK rfl e
    gi_wp2_with (refine ⟨trivial, fun e => (by cases e), ?_⟩; (with_reducible refine (callsIn_wide.2 kF).mono ?_); rintro e w6 ⟨rfl, hd6, hk6⟩; have h26 := (hk6.block (w.heap.size + 1 + 1) (by omega) hB2).trans hI.res; have c26 : w6.cell? ⟨w.heap.size + 1 + 1, 0, none⟩ = some (.int .i64 0) := (by rw [cell_of_row _ _ _ _ _ _ h26]; rfl); have f26 : w6.frozen? ⟨w.heap.size + 1 + 1, 0, none⟩ = false := frozen_of_row _ _ _ _ _ h26)
    have hK6 : w6.heap[D]? = some (.deferred (some [])) := (hk6.block D (Array.getElem?_eq_some_iff.1 hK).1 hDK).trans hK
    rw [← hpt]
    have hK' := (KeepsOthers.setCell w6 ⟨w.heap.size + 1 + 1, 0, none⟩ (.int .i64 (ptW s t l).1.err)).same D _ hK6 rfl
    refine ⟨by simp, .inl ⟨_, _, rfl, run_takeDeferred hK', ?_⟩⟩
    have hwD := hI.keep.size
    have hD6 : D < w6.heap.size := (Array.getElem?_eq_some_iff.1 hK6).1
    have hc : ((w6.setCell ⟨w.heap.size + 1 + 1, 0, none⟩ (.int .i64 (ptW s t l).1.err)).putObj D (.deferred none)).cell? ⟨w.heap.size + 1 + 1, 0, none⟩ = some (.int .i64 (ptW s t l).1.err) :=
      (World.cell?_of_block (a := ⟨w.heap.size + 1 + 1, 0, none⟩) (World.putObj_heap_other (by show w.heap.size + 1 + 1 ≠ D; omega))).trans (World.cell?_setCell_same _ _ _ (by rw [c26]))
    have hE : ptE s t l = (ptW s t l).1.err := by rw [ptE, if_pos hok]
    have hS : ptS s t l = (ptW s t l).1.flush := by rw [ptS, if_pos hok]
    refine ⟨.int .i64 (ptW s t l).1.err, by simp [results, Try.results32, go_sem, hc], by rw [hE], ?_⟩
    rw [hS]
    refine wp_end hsz b3 (B2 := w.heap.size + 1 + 1) (B3 := w.heap.size + 1 + 1 + 1) (by omega) (by omega) ?_ (hd6.same (by simp [World.setCell]) fun k e => Below.heap_setCell _ _ _ _ fun e2 => hB2 (by rw [← show k = w.heap.size + 1 + 1 from e2]; exact e)) hI.sub hD2 hDK _
    exact (hI.keep.then hk6 fun k e => by
      rcases hI.sub k e with e | e
      · exact .inl (.inl e)
      · exact .inr e).setCell (.inl (.inr (.inl rfl))) _
  case stop =>
    rintro D c pre W hD2 ⟨k, hk, rfl⟩ ⟨rfl, hbad, T, hI⟩ hK
    gi_wp2
    refine ⟨by simp, .inl ⟨_, _, rfl, run_takeDeferred hK, ?_⟩⟩
    have hwD := hI.keep.size
    have hDl : D < W.heap.size := (Array.getElem?_eq_some_iff.1 hK).1
    have hpt : ptW s t l = wrF s (wps t l ((ptAll l.length).take k)) := by
      have : ptAll l.length = (ptAll l.length).take k ++ (ptAll l.length).drop k := (List.take_append_drop _ _).symm
      rw [ptW]
      conv => lhs; rw [this]
      have key : ∀ (u v : List (Fin (pn l.length))), ∃ z, wps t l (u ++ v) = wps t l u ++ z := fun u v => ⟨_, by simp only [wps, List.zipIdx_append, List.map_append]; rfl⟩
      obtain ⟨z, hz⟩ := key ((ptAll l.length).take k) ((ptAll l.length).drop k)
      rw [hz, wrF_bad hbad]
    rw [← hpt] at hI hbad
    have hc : (W.putObj D (.deferred none)).cell? ⟨w.heap.size + 1 + 1, 0, none⟩ = some (.int .i64 (ptW s t l).2) :=
      (World.cell?_of_block (a := ⟨w.heap.size + 1 + 1, 0, none⟩) (World.putObj_heap_other (by show w.heap.size + 1 + 1 ≠ D; omega))).trans (by rw [cell_of_row _ _ _ _ _ _ hI.res]; rfl)
    have hE : ptE s t l = (ptW s t l).2 := by rw [ptE, if_neg hbad]
    have hS : ptS s t l = (ptW s t l).1 := by rw [ptS, if_neg hbad]
    refine ⟨.int .i64 (ptW s t l).2, by simp [results, Try.results32, go_sem, hc], by rw [hE], ?_⟩
    rw [hS]
    exact wp_end hsz b3 (B2 := w.heap.size + 1 + 1) (B3 := w.heap.size + 1 + 1 + 1) (by omega) (by omega) hI.keep hI.d hI.sub hD2 (fun e => hI.tight.not hK rfl e) _
theorem wparts_any {S L : Nat → Prop} {w : World} {g b : Nat} {s : St} {t : LSt} (hD : Ds S w b s) (hL : Lg L w g b t) (hSL : ∀ k, S k → ¬ L k) {A : Option Addr} {c : Nat} {l : List UInt8} (hr : Rd w w.heap.size 1 A l.length c (bv l)) (hA : 0 < l.length → ∀ q o, A = some ⟨q, o, none⟩ → ¬ S q) (hl : l.length ≤ 4096) (hw : s.waits.length < 800000) :
    Calls Try.prog 32 #[.pointer (some ⟨g, 0, none⟩), .slice A l.length c] w fun e w' => e = .returned (.int .i64 (ptE s t l)) ∧ Ds (Grow S w w') w' b (ptS s t l) ∧ Ks S w w' :=
  callsIn_wide.1 (wparts_in 6 (by omega) hD hL hSL hr hA hl hw)
end Go.Proofs.Ytgppaompcnllbaa
