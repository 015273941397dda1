/- JournalWrites, walked. Conditions: none. -/
import Derived.Test.YtgppaompcnllbaaWrites0
import Derived.Test.YtgppaompcnllbaaCrash
namespace Go.Proofs.Ytgppaompcnllbaa
open Go.RowKit

structure Wrs (e to nx k : Nat) (R : List (List UInt8)) (t : LSt) : Prop where
  epoch : t.epoch = e
  to : t.to = to
  next : t.next = nx
  recs : t.recs = R
  few : R.length ≤ k
theorem openW {M : Nat} {T : Nat → Prop} {w : World} {b p to e : Nat} {K : List Sec} {v : Value} {xs : List (List UInt8)} (h : Rest T w b K) (hB : Beside M T w v xs) {acc : List (List UInt8)} {pos : Nat} (hg : Good K e p acc pos to) (h1 : p ≤ to) (h2 : to ≤ K.length) (h3 : e < 2 ^ 64) :
    Calls Try.prog 11 #[.pointer (some ⟨b, 0, none⟩), .int .i64 p, .int .i64 to, .int .u64 e] w fun en w' => ∃ g U, en = .returned (.tuple #[.pointer (some ⟨g, 0, none⟩), .int .i64 0]) ∧ Live U w' g b p K ⟨pos, to, e, acc⟩ ∧ Beside M U w' v xs ∧ Below w.heap.size w w' :=
  (open_live h hg h1 h2 h3).mono fun _ _ ⟨g, he, hL, _, hb⟩ => ⟨g, _, he, hL, hB.ks (Ks.all hb), hb⟩
/-- What Append makes of a log, the texts beside it and those that are written into. -/
theorem live_appendY {M : Nat} {T : Nat → Prop} {w : World} {v : Value} {xs W ss : List (List UInt8)} {g b p gw cw N B m : Nat} {K : List Sec} {t : LSt} {vs : Value} (h : Live T w g b p K t) (hB : Beside M T w v xs) (hW : Wnt M T w v gw cw N W) (hS : w.ownsRow B 9 1 vs m (tcs ss)) (hT : ∀ k, T k → k < B) {w0 : World} {a : Rw} (hr : RwOk w0 a) (hM : w0.heap.size = M) (hb : Below w0.heap.size w0 w) (hl : a.b.length ≤ 4096) (hf : t.next + szN a.b.length ≤ t.to) :
    Calls Try.prog 14 #[.pointer (some ⟨g, 0, none⟩), .slice a.A a.b.length a.c] w fun e w' => e = .returned (.int .i64 0) ∧ Live (Grow T w w') w' g b p (laidK K t a.b) (t.add a.b) ∧ Beside M (Grow T w w') w' v xs ∧ Wnt M (Grow T w w') w' v gw cw N W ∧ w'.ownsRow B 9 1 vs m (tcs ss) ∧ Below M w w' := by
  subst hM
  refine (live_append h (hr.below hb) (fun hn q o e e2 => ?_) hl hf).mono fun e w' ⟨he, hL, hk⟩ => ⟨he, hL, hB.ks hk, hW.ks hk, own_same hS fun g e => hk.block g (hS.lt g e).2 fun e2 => (by have := hT g e2; have := (hS.lt g e).1; omega), hk.below hB.above hB.lo⟩
  have hr' : Rd w0 w0.heap.size 1 a.A a.b.length a.c (bv a.b) := hr
  obtain ⟨q', o', e', hq, _⟩ := hr'.at_ hn
  rw [e] at e'
  cases e'
  have := hB.above q e2
  omega
theorem roomN {L : Nat → Prop} {w : World} {g b r : Nat} {t : LSt} (h : Lg L w g b t) (hr : t.to - t.next = r) : Calls Try.prog 17 #[.pointer (some ⟨g, 0, none⟩)] w fun e w' => e = .returned (.int .i64 r) ∧ Below w.heap.size w w' := by
  subst hr
  exact room_any h
theorem sizeN (w : World) {n m : Nat} (hn : n ≤ 4096) (hm : szN n = m) : Calls Try.prog 18 #[.int .i64 n] w fun e w' => e = .returned (.int .i64 m) ∧ w = w' := by
  subst hm
  exact (size_any w n (by omega)).mono fun _ _ ⟨h1, h2⟩ => ⟨h1, h2.symm⟩
theorem wantNew {M : Nat} {U : Nat → Prop} {w w' : World} {gw cw N : Nat} {K : List (List UInt8)} (h : Beside M U w (.slice none 0 0) []) (hr : w'.ownsRow w.heap.size 9 1 (.slice (some ⟨gw, 0, none⟩) N cw) N (tcs K)) : Wnt M U w' (.slice none 0 0) gw cw N K :=
  ⟨own_base hr h.lo, fun e => by have := h.size gw e; have := (hr.lt gw rfl).1; omega, fun e => (by cases e)⟩

set_option maxRecDepth 100000 in
set_option maxHeartbeats 16000000 in
theorem writes_early (w : World) (z0 z1 : Int) (e : Nat) (A3 : Option Addr) (c3 : Nat) (l : List Rw) (r3 : Rd w w.heap.size 1 A3 l.length c3 (l.map rwCell)) (hfew : fewR l = false) :
    Calls Try.prog 3 #[.int .u8 z0, .int .u8 z1, .int .u64 e, .slice A3 l.length c3] w fun en w' => en = .returned (.bool true) ∧ Below w.heap.size w w' := by
  have Hb := Lib.hid (Below.refl w.heap.size w)
  have hB : w.heap.size ≤ w.heap.size := Nat.le_refl _
  have kF := fun W (hb : Below w.heap.size w W) => few_any W (r3.below hb)
  rw [hfew] at kF
  go_enter Try.func3, Try.ntmps3
  go_wp2_with (first
    | ((with_reducible refine (awake_any _).mono ?_); rintro en w1 ⟨rfl, hb⟩; obtain ⟨Hb, hB⟩ := chain Hb hB hb; clear hb)
    | ((with_reducible refine (kF _ Hb.out).mono ?_); rintro en w2 ⟨rfl, rfl⟩))
  go_ret
  exact ⟨rfl, Hb.out⟩
set_option maxRecDepth 100000 in
set_option maxHeartbeats 16000000 in
theorem writes_main (w : World) (z0 z1 : Int) (hz0 : 0 ≤ z0 ∧ z0 ≤ 255) (hz1 : 0 ≤ z1 ∧ z1 ≤ 255) (e : Nat) (he : e < 2 ^ 64) (A3 : Option Addr) (c3 : Nat) (l : List Rw) (r3 : Rd w w.heap.size 1 A3 l.length c3 (l.map rwCell)) (f3 : ∀ a ∈ l, RwOk w a) (hfew : fewR l = true) :
    Calls Try.prog 3 #[.int .u8 z0, .int .u8 z1, .int .u64 e, .slice A3 l.length c3] w fun en w' => en = .returned (.bool true) ∧ Below w.heap.size w w' := by
  have Hb := Lib.hid (Below.refl w.heap.size w)
  have hB : w.heap.size ≤ w.heap.size := Nat.le_refl _
  have kF := fun W (hb : Below w.heap.size w W) => few_any W (r3.below hb)
  rw [hfew] at kF
  obtain ⟨hs0, hl0⟩ := fewR_iff.1 hfew
  have Hs0 := Lib.hid hs0
  have He := Lib.hid he
  clear hs0 hfew he
  obtain ⟨p, hp⟩ : ∃ p : Nat, z1 % 4 = (p : Int) := ⟨(z1 % 4).toNat, by omega⟩
  obtain ⟨q, hq⟩ : ∃ q : Nat, z0 % 30 = (q : Int) := ⟨(z0 % 30).toNat, by omega⟩
  have hp4 : p < 4 := by omega
  have hq30 : q < 30 := by omega
  obtain ⟨to, hto⟩ : ∃ to : Nat, (p : Int) + (q : Int) = (to : Int) := ⟨p + q, by omega⟩
  obtain ⟨N, hN⟩ : ∃ N : Nat, (to : Int) + 3 = (N : Int) := ⟨to + 3, by omega⟩
  have hpt : p ≤ to := by omega
  have htN : to + 3 = N := by omega
  have hN40 : N ≤ 40 := by omega
  have hK0 := fresh_len N
  have kN := fun W => rest_new W N (by omega) (by omega)
  have kO := fun (T : Nat → Prop) (W : World) (b : Nat) (h : Rest T W b (St.fresh N).kept) (hB : Beside w.heap.size T W (.slice none 0 0) []) => openW h hB (Good.new (clean_fresh N e p to) hpt) hpt (by rw [hK0]; omega) He.out
  have HK0 := Lib.hid hK0
  clear hK0
  go_enter Try.func3, Try.ntmps3
  go_wp2_with (first
    | ((with_reducible refine (awake_any _).mono ?_); rintro en w1 ⟨rfl, hb⟩; obtain ⟨Hb, hB⟩ := chain Hb hB hb; clear hb)
    | ((with_reducible refine (kF _ Hb.out).mono ?_); rintro en w2 ⟨rfl, rfl⟩)
    | ((with_reducible refine (kN _).mono ?_); rintro en w4 ⟨b, rfl, d4, hb⟩; have s4 := Beside.nil (T := In w1.heap.size w4.heap.size) (Nat.le_trans hB hb.size) (fun k e => Nat.le_trans hB e.1) (fun k e => e.2); obtain ⟨Hb, hB⟩ := chain Hb hB hb; clear hb)
    | ((with_reducible refine (kO _ _ _ d4 s4).mono ?_); rintro en w5 ⟨g, T5, rfl, l5, s5, hb⟩; obtain ⟨Hb, hB⟩ := chain Hb hB hb; clear hb d4 s4)
    | ((with_reducible refine (sectorsL l5 HK0.out).mono ?_); rintro en w6 ⟨vw, rfl, ow, hb⟩; obtain ⟨gw, cw, rfl, _⟩ := own_pos ow (by omega); have W6 := wantNew s5 ow; have l6 := l5.below hb; have s6 := s5.below hb; obtain ⟨Hb, hB⟩ := chain Hb hB hb; clear hb l5 s5 ow))
  have e6 : Wrs e to p 0 [] ⟨p, to, e, []⟩ := ⟨rfl, rfl, rfl, rfl, Nat.le_refl _⟩
  obtain ⟨i0, hi, hz0', hz1', hz2'⟩ := info_parts info_str
  clear kF kN kO
  rw [hp]
  go_loopw [17, 18, 19, 20, 21, 22, 23] (fun va vg vi _vs _ve _vk _vl wr => ∃ (k nx : Nat) (K : List Sec) (R : List (List UInt8)) (t : LSt) (T : Nat → Prop), va = .int .i64 nx ∧ vi = .int .i64 k ∧ k ≤ l.length ∧ nx ≤ to ∧ Live T wr g b p K t ∧ Beside w.heap.size T wr vg R ∧ Wnt w.heap.size T wr vg gw cw N K ∧ Wrs e to nx k R t ∧ Below w.heap.size w wr) (fun _ _ vi _ _ _ _ _ => l.length - (intOf vi).toNat)
  case atStart => exact ⟨0, p, _, _, _, _, rfl, rfl, Nat.zero_le _, hpt, l6, s6, W6, e6, Hb.out⟩
  case round =>
    clear l6 s6 W6 e6 Hb hB
    obtain ⟨k, nx, K, R, t, T, rfl, rfl, hk, hnx, hL, hS, hW, hC, hb⟩ := hrel
    obtain ⟨n, hn⟩ : ∃ n, R.length = n := ⟨_, rfl⟩
    have hnk : n ≤ k := by rw [← hn]; exact hC.few
    have Hn := Lib.hid hn
    have hKN := hW.len
    have HK := Lib.hid hKN
    clear hn hKN
    by_cases hlt : k < l.length
    · have hlz : (k : Int) < (l.length : Int) := by omega
      obtain ⟨a, ha⟩ : ∃ a, l[k]? = some a := ⟨l[k], List.getElem?_eq_getElem hlt⟩
      obtain ⟨q', o, rfl, hq', cq⟩ := rows_at r3 ha
      have hal := Hs0.out a (List.mem_of_getElem? ha)
      have fa := f3 a (List.mem_of_getElem? ha)
      obtain ⟨m, hm⟩ : ∃ m, szN a.b.length = m := ⟨_, rfl⟩
      have hm6 : m ≤ 6 := by rw [← hm]; exact szN_300 hal
      obtain ⟨nx', hnx'⟩ : ∃ nx' : Nat, (nx : Int) + (m : Int) = (nx' : Int) := ⟨nx + m, by omega⟩
      have Hm := Lib.hid hm
      have kc := fun W (h : Below w.heap.size w W) => (h.cell (p := ⟨q', o + k, none⟩) hq').trans cq
      have kv := fun W (h : Below w.heap.size w W) => (RwOk.below fa h).conv (P := Try.prog) 36 9 5 Try.underlying36 Try.underlying5 Try.underlying9
      have kS := fun W => refSectors_any W e n a.b He.out (by omega) (by omega)
      have kZ := fun W => sizeN W (n := a.b.length) (by omega) Hm.out
      rw [hm] at kS
      have c0' := kc _ hb
      have v0' := kv _ hb
      have Hb := Lib.hid hb
      have hB := hb.size
      have hgw := hW.lt.2
      clear hb ha cq hm
      obtain ⟨A4, c4, rfl, _⟩ := hS.rdN Hn.out
      by_cases hfit : nx' ≤ to
      · have hft : decide ((nx' : Int) ≤ (to : Int)) = true := by simp; omega
        obtain ⟨rm, hrm⟩ : ∃ rm : Nat, (to : Int) - (nx' : Int) = (rm : Int) := ⟨to - nx', by omega⟩
        go_wp2_with (first
          | ((with_reducible refine (kS _).mono ?_); rintro en w8 ⟨vs, rfl, os, hb⟩; obtain ⟨gs, cs, rfl, hgs, _⟩ := own_pos os (by have := Hm.out; unfold szN at this; omega); have L8 := hL.below hb; have s8 := hS.below hb; have W8 := hW.below hb; have hTB := hL.size; obtain ⟨Hb, hB⟩ := chain Hb hB hb; have c8 := kc _ Hb.out; clear hb hL hS hW c0' v0')
          | ((with_reducible refine (live_appendY L8 s8 W8 os hTB fa rfl Hb.out (by omega) (by rw [hC.next, hC.to, Hm.out]; omega)).mono ?_); rintro en w9 ⟨rfl, L9, s9, W9, os9, hb⟩; obtain ⟨Hb, hB⟩ := chainL Hb (Nat.le_refl _) hB hb; clear hb L8 s8 W8 os c8))
        have e9 : t.next + szN a.b.length ≤ K.length := by rw [hC.next, Hm.out, HK.out]; omega
        have l9 := Laying.zero K nx (secsOf e n a.b)
        have hgg : gw < gs := by have := (os9.lt gs rfl).1; omega
        have HE9 := Lib.hid e9
        obtain ⟨B0, hB0⟩ : ∃ B0 : Nat, B0 = wr.heap.size := ⟨_, rfl⟩
        rw [← hB0] at os9
        clear hB0
        go_loopw [22] (fun vj wr => ∃ (j : Nat) (W : List (List UInt8)), vj = .int .i64 j ∧ j ≤ m ∧ Live (Grow T w8 w9) wr g b p (laidK K t a.b) (t.add a.b) ∧ Beside w.heap.size (Grow T w8 w9) wr (.slice A4 n c4) R ∧ Wnt w.heap.size (Grow T w8 w9) wr (.slice A4 n c4) gw cw N W ∧ Laying K nx (secsOf e n a.b) j W ∧ wr.ownsRow B0 9 1 (.slice (some ⟨gs, 0, none⟩) m cs) m (tcs (secsOf e n a.b)) ∧ Below w.heap.size w wr) (fun vj _ => m - (intOf vj).toNat)
        case atStart => exact ⟨0, K, rfl, Nat.zero_le _, L9, s9, W9, l9, os9, Hb.out⟩
        case round =>
          obtain ⟨j, W, rfl, hj, hL2, hS2, hW2, hY, ho2, hb2⟩ := hrel
          have Hb2 := Lib.hid hb2
          clear hb2
          by_cases hjm : j < m
          · have hjz : (j : Int) < (m : Int) := by omega
            obtain ⟨z, hz⟩ : ∃ z : Nat, (nx : Int) + (j : Int) = (z : Int) := ⟨nx + j, by omega⟩
            obtain ⟨x, hx⟩ : ∃ x, (secsOf e n a.b)[j]? = some x := ⟨_, List.getElem?_eq_getElem (by rw [secsOf_len, Hm.out]; exact hjm)⟩
            have cs2 : wr.cell? ⟨gs, j, none⟩ = some (.string (strOf x)) := by rw [ho2.cellAt j (by omega), tcs_get, hx]; rfl
            obtain ⟨y, hy⟩ : ∃ y, W[z]? = some y := ⟨_, List.getElem?_eq_getElem (by rw [hW2.len]; omega)⟩
            have cw2 := hW2.cell hy
            have fw2 := hW2.frz z
            obtain ⟨hW3, hk3⟩ := hW2.set z x
            have hY3 := hY.step hx (by rw [HK.out]; omega)
            rw [show nx + j = z from by omega] at hY3
            have hL3 := hL2.keep hk3 fun k e e2 => hW2.far (by rw [← e2]; exact e)
            have hS3 := hS2.keep hk3 fun q e e2 => hW2.ne (by rw [← e2]; exact e)
            have ho3 := own_same ho2 fun g e => (by cases e; exact hk3.block gs (ho2.lt gs rfl).2 (by omega))
            have hb3 := hk3.below (lo := w.heap.size) (fun k e => (by have := hW2.lt.1; omega)) hS2.lo
            have Hx := Lib.hid hx
            clear hx hy hW2 hL2 hS2 ho2 hk3 hY
            go_wp2
            go_roundw
            case rel => exact ⟨j + 1, W.set z x, by simp, by omega, hL3, hS3, hW3, hY3, ho3, Hb2.out.trans hb3⟩
            case measure => simp [intOf]; omega
          · have hjm' : m = j := by omega
            subst hjm'
            have hmz : decide (m < m) = false := by simp
            have hY' : Laying K t.next (secsOf t.epoch t.recs.length a.b) (szN a.b.length) W := by rw [hC.next, hC.epoch, hC.recs, Hn.out, Hm.out]; exact hY
            obtain rfl := hY'.done HE9.out
            have ho := hS2.rowN Hn.out
            have c10 := kc _ Hb2.out
            have v10 := kv _ Hb2.out
            have hrc : (t.add a.b).recs = R ++ [a.b] := by show t.recs ++ [a.b] = _; rw [hC.recs]
            have hrr : (t.add a.b).to - (t.add a.b).next = rm := by show t.to - (t.next + szN a.b.length) = rm; rw [hC.to, hC.next, Hm.out]; omega
            have hn1 : (R ++ [a.b]).length = n + 1 := by rw [List.length_append, List.length_singleton, Hn.out]
            have hC2 : Wrs e to nx' (k + 1) (R ++ [a.b]) (t.add a.b) := ⟨hC.epoch, hC.to, by show t.next + szN a.b.length = nx'; rw [hC.next, Hm.out]; omega, hrc, by rw [hn1]; omega⟩
            have Hn1 := Lib.hid hn1
            have Hrc := Lib.hid hrc
            have Hrr := Lib.hid hrr
            have HC2 := Lib.hid hC2
            have Hb3 := Hb2
            have hB3 : w.heap.size ≤ wr.heap.size := hS2.lo
            clear hY hY' ho2 hn1 hrc hrr hC2 hC
            go_wp2_with (first
              | (at_builtin; refine wpList_append_src _ rfl (.tmp 127) (.tmp 133) 33 33 rfl w.heap.size 9 i0 (.string .empty) 1 16 Try.underlying33 hi hz0' hz1' hz2' rfl (by decide) _ _ _ rfl (ho.alloc _) _ 1 [_] rfl (Src.ofSlice _ Try.underlying33 _ 1 1 _ rfl (cell_one_new _ _ _) (fun u hu => by simp at hu; subst hu; rfl)) (by simp only [maxLen]; omega) (by omega) (by simp; have := hS2.lo; omega) ?_; intro v11 w11 hown hg hat; obtain ⟨s11, k11, hb⟩ := hS2.put Hn.out hown hg hat; have L11 := hL2.put hS2 k11; have W11 := hW2.put hg hat; obtain ⟨Hb3, hB3⟩ := chainL Hb3 (Nat.le_refl _) hB3 hb; clear hb hown hg hat ho hS2 hL2 hW2 k11 c10 v10; obtain ⟨A7, c7, rfl, d11⟩ := s11.rdN Hn1.out)
              | ((with_reducible refine (rec_N L11.lg Hrc.out Hn1.out).mono ?_); rintro en w12 ⟨A8, c8, rfl, rr12, hb⟩; have L12 := L11.below hb; have W12 := W11.below hb; have s12 := s11.below hb; have d12 := (d11.below hb).more hb.size; obtain ⟨Hb3, hB3⟩ := chain Hb3 hB3 hb; clear hb L11 s11 W11 d11)
              | ((with_reducible refine (same_N Hn1.out Hn1.out (sameB_self (R ++ [a.b])) rr12 d12).mono ?_); rintro en w13 ⟨rfl, hb⟩; have L13 := L12.below hb; have W13 := W12.below hb; have s13 := s12.below hb; obtain ⟨Hb3, hB3⟩ := chain Hb3 hB3 hb; clear hb L12 s12 W12 d12 rr12)
              | ((with_reducible refine (roomN L13.lg Hrr.out).mono ?_); rintro en w14 ⟨rfl, hb⟩; have L14 := L13.below hb; have W14 := W13.below hb; have s14 := s13.below hb; obtain ⟨Hb3, hB3⟩ := chain Hb3 hB3 hb; have c14 := kc _ Hb3.out; clear hb L13 s13 W13)
              | ((with_reducible refine (kZ _).mono ?_); rintro en w15 ⟨rfl, rfl⟩))
            go_roundw
            case rel => exact ⟨k + 1, nx', _, _, _, _, rfl, by simp, by omega, hfit, L14, s14, W14, HC2.out, Hb3.out⟩
            case measure => simp [intOf]; omega
      · have hft : decide ((nx' : Int) ≤ (to : Int)) = false := by simp; omega
        obtain ⟨rm, hrm⟩ : ∃ rm : Nat, (to : Int) - (nx : Int) = (rm : Int) := ⟨to - nx, by omega⟩
        have hrr : t.to - t.next = rm := by rw [hC.to, hC.next]; omega
        have hC2 : Wrs e to nx (k + 1) R t := ⟨hC.epoch, hC.to, hC.next, hC.recs, by rw [Hn.out]; omega⟩
        have Hrc := Lib.hid hC.recs
        have Hrr := Lib.hid hrr
        have HC2 := Lib.hid hC2
        have hno : t.to - t.next < szN a.b.length := by rw [hC.to, hC.next, Hm.out]; omega
        have Hno := Lib.hid hno
        clear hrr hC2 hC hno
        have d7 := (hS.rdN Hn.out)
        obtain ⟨_, _, e7, d7⟩ := d7
        cases e7
        go_wp2_with (first
          | ((with_reducible refine (kS _).mono ?_); rintro en w8 ⟨vs, rfl, os, hb⟩; obtain ⟨gs, cs, rfl, hgs, _⟩ := own_pos os (by have := Hm.out; unfold szN at this; omega); have L8 := hL.below hb; have s8 := hS.below hb; have W8 := hW.below hb; have d8 := (d7.below hb).more hb.size; obtain ⟨Hb, hB⟩ := chain Hb hB hb; have c8 := kc _ Hb.out; clear hb hL hS hW c0' v0' d7)
          | ((with_reducible refine (append_full L8.lg a.A a.b.length a.c (by omega) Hno.out).mono ?_); rintro en w9 ⟨rfl, hb⟩; have L9 := L8.below hb; have s9 := s8.below hb; have W9 := W8.below hb; have d9 := (d8.below hb).more hb.size; obtain ⟨Hb, hB⟩ := chain Hb hB hb; clear hb L8 s8 W8 d8 c8)
          | ((with_reducible refine (rec_N L9.lg Hrc.out Hn.out).mono ?_); rintro en w12 ⟨A8, c8, rfl, rr12, hb⟩; have L12 := L9.below hb; have W12 := W9.below hb; have s12 := s9.below hb; have d12 := (d9.below hb).more hb.size; obtain ⟨Hb, hB⟩ := chain Hb hB hb; clear hb L9 s9 W9 d9)
          | ((with_reducible refine (same_N Hn.out Hn.out (sameB_self R) rr12 d12).mono ?_); rintro en w13 ⟨rfl, hb⟩; have L13 := L12.below hb; have W13 := W12.below hb; have s13 := s12.below hb; obtain ⟨Hb, hB⟩ := chain Hb hB hb; clear hb L12 s12 W12 d12 rr12)
          | ((with_reducible refine (roomN L13.lg Hrr.out).mono ?_); rintro en w14 ⟨rfl, hb⟩; have L14 := L13.below hb; have W14 := W13.below hb; have s14 := s13.below hb; obtain ⟨Hb, hB⟩ := chain Hb hB hb; have c14 := kc _ Hb.out; clear hb L13 s13 W13)
          | ((with_reducible refine (kZ _).mono ?_); rintro en w15 ⟨rfl, rfl⟩))
        go_roundw
        case rel => exact ⟨k + 1, nx, _, _, _, _, rfl, by simp, by omega, hnx, L14, s14, W14, HC2.out, Hb.out⟩
        case measure => simp [intOf]; omega
    · obtain rfl : k = l.length := by omega
      have hlz : decide (l.length < l.length) = false := by simp
      have Hb := Lib.hid hb
      have hB := hb.size
      have hG := hL.good
      rw [hC.epoch, hC.recs, hC.next, hC.to] at hG
      clear hb hC
      obtain ⟨rm, hrm⟩ : ∃ rm : Nat, (to : Int) - (nx : Int) = (rm : Int) := ⟨to - nx, by omega⟩
      obtain ⟨A4, c4, rfl, _⟩ := hS.rdN Hn.out
      go_wp2_with (first
        | ((with_reducible refine (sectorsL hL HK.out).mono ?_); rintro en w20 ⟨vn, rfl, on, hb⟩; obtain ⟨gn, cn, rfl, _⟩ := own_pos on (by omega); have L20 := hL.below hb; have s20 := hS.below hb; have W20 := hW.below hb; obtain ⟨Hb, hB⟩ := chain Hb hB hb; clear hb hL hS hW))
      go_loopw [25] (fun vi wr => ∃ j : Nat, vi = .int .i64 j ∧ j ≤ N ∧ Below w20.heap.size w20 wr) (fun vi _ => N - (intOf vi).toNat)
      case atStart => exact ⟨0, rfl, Nat.zero_le _, Below.refl _ _⟩
      case round =>
        obtain ⟨j, rfl, hj, hb2⟩ := hrel
        have Hb2 := Lib.hid hb2
        have on2 := own_below on hb2
        have W21 := W20.below hb2
        have L21 := L20.below hb2
        have s21 := s20.below hb2
        obtain ⟨Hb, hB⟩ := chain Hb hB hb2
        clear hb2 on W20 L20 s20
        by_cases hjN : j < N
        · have hjz : (j : Int) < (N : Int) := by omega
          obtain ⟨x, hx⟩ : ∃ x, K[j]? = some x := ⟨_, List.getElem?_eq_getElem (by rw [HK.out]; exact hjN)⟩
          have cn1 : wr.cell? ⟨gn, j, none⟩ = some (.string (strOf x)) := by rw [on2.cellAt j (by omega), tcs_get, hx]; rfl
          have cw1 := W21.cell hx
          have Hx := Lib.hid hx
          clear hx W21 L21 s21 on2
          go_wp2
          go_quiet (fail)
          go_wp2
          go_roundw
          case rel => exact ⟨j + 1, by simp, by omega, below_drewN Hb2.out _⟩
          case measure => simp [intOf]; omega
        · obtain rfl : j = N := by omega
          have hjz : decide (j < j) = false := by simp
          go_wp2_with (first
            | ((with_reducible refine (openW L21.rest s21 hG hpt (by rw [HK.out]; omega) He.out).mono ?_); rintro en w22 ⟨g2, U, rfl, L22, s22, hb⟩; obtain ⟨Hb, hB⟩ := chain Hb hB hb; clear hb L21 s21)
            | ((with_reducible refine (rec_N L22.lg rfl Hn.out).mono ?_); rintro en w23 ⟨A8, c8, rfl, rr23, hb⟩; have L23 := L22.below hb; have d23 := (s22.below hb).rdN Hn.out; obtain ⟨Hb, hB⟩ := chain Hb hB hb; clear hb L22 s22)
            | ((obtain ⟨_, _, e23, d23'⟩ := d23; cases e23; with_reducible refine (same_N Hn.out Hn.out (sameB_self R) rr23 d23').mono ?_); rintro en w24 ⟨rfl, hb⟩; have L24 := L23.below hb; obtain ⟨Hb, hB⟩ := chain Hb hB hb; clear hb L23 d23' rr23)
            | ((with_reducible refine (roomN L24.lg (r := rm) (by show to - nx = rm; omega)).mono ?_); rintro en w25 ⟨rfl, hb⟩; have L25 := L24.below hb; obtain ⟨Hb, hB⟩ := chain Hb hB hb; clear hb L24)
            | ((with_reducible refine (waitingL L25).mono ?_); rintro en w26 ⟨rfl, rfl⟩))
          go_ret
          exact ⟨rfl, Hb.out⟩
theorem journalWrites_walk (x0 : Int) (x1 : Int) (x2 : Int) (A3 : Option Addr) (c3 : Nat) (l3 : List Rw) (w : World) (f0 : (Lit.int .u8 x0).wf = true) (f1 : (Lit.int .u8 x1).wf = true) (f2 : (Lit.int .u64 x2).wf = true) (r3 : Rd w w.heap.size 1 A3 l3.length c3 (l3.map rwCell)) (f3 : ∀ a ∈ l3, RwOk w a) :
    Calls Try.prog 3 #[.int .u8 x0, .int .u8 x1, .int .u64 x2, .slice A3 l3.length c3] w fun e w' => e = .returned (.bool true) ∧ Below w.heap.size w w' := by
  obtain ⟨e, rfl, he⟩ := wf_u64 f2
  cases hf : fewR l3 with
  | true => exact writes_main w x0 x1 (wf_u8 f0) (wf_u8 f1) e he A3 c3 l3 r3 f3 hf
  | false => exact writes_early w x0 x1 e A3 c3 l3 r3 hf
end Go.Proofs.Ytgppaompcnllbaa
