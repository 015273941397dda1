/- Layer 4, for JournalReads: the reference's Size and Records. Conditions: none of note. -/
import Derived.Test.YtgppaompcnllbaaRefS
namespace Go.Proofs.Ytgppaompcnllbaa
open Go.RowKit

set_option maxRecDepth 100000 in
theorem refSize_any (w : World) (n : Nat) (hn : n ≤ 100000) :
    Calls Try.prog 39 #[.int .i64 n] w fun en w' => en = .returned (.int .i64 (szN n)) ∧ w' = w := by
  go_enter Try.func39, Try.ntmps39
  go_wp2
  go_loop [0, 3] (fun vn vk => ∃ (j : Nat) (z : Int) (k : Nat), vn = .int .i64 z ∧ vk = .int .i64 k ∧ z = (n : Int) - 63 * j ∧ k = 1 + j ∧ j ≤ pn n) (fun vn _ => (intOf vn).toNat)
  case atStart => exact ⟨0, n, 1, rfl, rfl, by omega, rfl, Nat.zero_le _⟩
  case round =>
    obtain ⟨j, z, k, rfl, rfl, hz, hk, hj⟩ := hrel
    have hp := @pn_lt n j
    have Hk := Lib.hid hk
    clear hk
    have hpl := pn_le n
    have hk2 : k ≤ 100001 := by have := Hk.out; omega
    by_cases h0 : 0 < z
    · have hjl : j < pn n := hp.2 (by omega)
      have hzl : z ≤ 100000 := by omega
      replace hz := Lib.hid hz
      replace hp := Lib.hid hp
      go_wp2
      have hz1 := hz.out
      have hk1 := Hk.out
      go_round
      case rel => exact ⟨j + 1, z - 63, k + 1, rfl, by simp, by omega, by omega, by omega⟩
      case measure => simp [intOf]; omega
    · have hjl : ¬ j < pn n := fun h => by have := hp.1 h; omega
      obtain rfl : j = pn n := by omega
      replace hz := Lib.hid hz
      replace hp := Lib.hid hp
      go_wp2
      go_ret
      exact ⟨by rw [Hk.out]; rfl, rfl⟩

theorem refReadN {l l' : List UInt8} {x a x' : Nat} (h : rnum (l, x) = (a, (l', x'))) (hl : l.length ≤ 1000000) {z : Int} (hz : (x : Int) = z) (W : World) :
    Calls Try.prog 38 #[.agg #[.string (strOf l), .int .i64 z]] W fun e w' => e = .returned (.tuple #[.int .u64 a, .agg #[.string (strOf l'), .int .i64 x']]) ∧ Below W.heap.size W w' := by
  subst hz
  have := refRead_any (l, x) hl W
  rw [h] at this
  exact this
theorem chainA {B : Nat} {w w1 w2 : World} {o : Obj} (h : Hid (Below B w w1)) (hB : B ≤ w1.heap.size) (k : Below (w1.alloc o).heap.size (w1.alloc o) w2) : Hid (Below B w w2) ∧ B ≤ w2.heap.size :=
  chain (Lib.hid (h.out.alloc hB o)) (by simp; omega) k
/-- A text among texts. -/
theorem text_at {w : World} {A : Option Addr} {c N : Nat} {K : List Sec} (h : Rd w w.heap.size 1 A N c (tcs K)) {k : Nat} {x : Sec} (hk : K[k]? = some x) :
    ∃ q o, A = some ⟨q, o, none⟩ ∧ q < w.heap.size ∧ w.cell? ⟨q, o + k, none⟩ = some (.string (strOf x)) := by
  have hlt := (List.getElem?_eq_some_iff.1 hk).1
  have hl := h.len
  rw [tcs_len] at hl
  obtain ⟨b, o, u, e, hb, hu, hc⟩ := h.get (k := k) (by omega)
  rw [tcs_get, hk] at hu
  simp at hu
  subst hu
  exact ⟨b, o, e, hb, hc⟩
set_option maxRecDepth 100000 in
set_option maxHeartbeats 16000000 in
theorem refRecords_any (w : World) (A : Option Addr) (c N : Nat) (K : List Sec) (p to e : Nat) (hr : Rd w w.heap.size 1 A N c (tcs K)) (h64 : ∀ b ∈ K, b.length = 64) (hN : N ≤ 1000) (hp : p ≤ to) (hto : to ≤ N) (he : e < 2 ^ 64) :
    Calls Try.prog 22 #[.slice A N c, .int .i64 p, .int .i64 to, .int .u64 e] w fun en w' => ∃ (A' : Option Addr) (c' : Nat) (acc : List (List UInt8)) (pos : Nat), en = .returned (.tuple #[.slice A' acc.length c', .int .i64 pos]) ∧ Rd w' w'.heap.size 1 A' acc.length c' (tcs acc) ∧ Reads K e to p acc pos ∧ pos ≤ to ∧ Below w.heap.size w w' := by
  have hKN : K.length = N := by have := hr.len; rw [tcs_len] at this; omega
  obtain ⟨i0, hi, hz0, hz1, hz2⟩ := info_parts info_str
  have H64 := Lib.hid h64
  have HKN := Lib.hid hKN
  have He := Lib.hid he
  clear h64 hKN he
  go_enter Try.func22, Try.ntmps22
  go_wp2
  go_loopw [1, 10, 11, 12, 13, 14, 15, 16, 17, 18, 19, 20] (fun vf vo _a _b _c _d _e _f _g _h _i _j wr => ∃ (pos n : Nat) (acc : List (List UInt8)), vf = .int .i64 pos ∧ pos ≤ to ∧ acc.length = n ∧ n ≤ pos ∧ wr.ownsRow w.heap.size 9 1 vo n (tcs acc) ∧ Upto K e to p acc pos ∧ Below w.heap.size w wr) (fun vf _ _ _ _ _ _ _ _ _ _ _ _ => to - (intOf vf).toNat)
  case atStart => exact ⟨p, 0, [], rfl, hp, rfl, Nat.zero_le _, World.ownsRow_nil _ _ _ _, .nil, Below.refl _ _⟩
  case round =>
    obtain ⟨pos, n, acc, rfl, hpos, hn, hnp, ho, hU, hb⟩ := hrel
    have Hn := Lib.hid hn
    have HU := Lib.hid hU
    have Hb := Lib.hid hb
    have hB := hb.size
    clear hn hU hb
    obtain ⟨A4, c4, rfl, _⟩ := Rd.own ho
    by_cases hlt : pos < to
    · have hlz : (pos : Int) < (to : Int) := by omega
      obtain ⟨s, hs⟩ : ∃ s, K[pos]? = some s := ⟨_, List.getElem?_eq_getElem (by rw [HKN.out]; omega)⟩
      obtain ⟨q, o, rfl, hq, cq⟩ := text_at hr hs
      have hsl := H64.out s (List.mem_of_getElem? hs)
      have hgD : K.getD pos [] = s := by rw [List.getD_eq_getElem?_getD, hs]; rfl
      obtain ⟨x, r, rfl⟩ : ∃ x r, s = x :: r := by cases s with | nil => simp at hsl | cons x r => exact ⟨x, r, rfl⟩
      have hrl : r.length = 63 := by simpa using hsl
      have kc := fun W (h : Below w.heap.size w W) => (h.cell (p := ⟨q, o + pos, none⟩) hq).trans cq
      have c0 := kc _ Hb.out
      have hsz : (strOf (x :: r)).size = 64 := by rw [strOf_size]; exact hsl
      have hd1 : (strOf (x :: r)).extract 1 64 = strOf r := by
        have := strOf_drop (x :: r) 1
        rw [hsl] at this
        exact this
      obtain ⟨eA, lA, xA, hA⟩ : ∃ a l x, rnum (r, 0) = (a, (l, x)) := ⟨_, _, _, rfl⟩
      obtain ⟨eB, lB, xB, hB'⟩ : ∃ a l x, rnum (lA, xA) = (a, (l, x)) := ⟨_, _, _, rfl⟩
      obtain ⟨eC, lC, xC, hC⟩ : ∃ a l x, rnum (lB, xB) = (a, (l, x)) := ⟨_, _, _, rfl⟩
      have zA : lA.length ≤ r.length := by have := rnum_len (r, 0); rw [hA] at this; exact this
      have zB : lB.length ≤ lA.length := by have := rnum_len (lA, xA); rw [hB'] at this; exact this
      have kA := fun W => refReadN hA (by omega) (z := 0) rfl W
      have kB := fun W => refReadN hB' (by omega) (z := xA) rfl W
      have kC := fun W => refReadN hC (by omega) (z := xB) rfl W
      have hdh : ∀ k, headIs (x :: r) e k = if x = 1 ∧ xC = 0 ∧ eC ≤ 4096 ∧ eA = e ∧ eB = k then some eC else none := fun k => by
        have a1 : hdA r = (eA, (lA, xA)) := hA
        have a2 : hdB r = (eB, (lB, xB)) := by rw [hdB, a1]; exact hB'
        have a3 : hdC r = (eC, (lC, xC)) := by rw [hdC, a2]; exact hC
        show (if (x :: r).head? = some 1 ∧ (hdC r).2.2 = 0 ∧ (hdC r).1 ≤ 4096 ∧ (hdA r).1 = e ∧ (hdB r).1 = k then some (hdC r).1 else none) = _
        rw [a1, a2, a3]
        simp
      have Hdh := Lib.hid hdh
      have HgD := Lib.hid hgD
      clear hdh hA hB' hC zA zB hsl hs cq hgD
      have Hc := Lib.hid (Below.refl wr.heap.size wr)
      have hc0 : wr.heap.size ≤ wr.heap.size := Nat.le_refl _
      go_wp2_with (first
        | ((with_reducible refine (kA _).mono ?_); rintro en w2 ⟨rfl, hb⟩; obtain ⟨Hc, hc0⟩ := chainA Hc hc0 hb; clear hb kA)
        | ((with_reducible refine (kB _).mono ?_); rintro en w3 ⟨rfl, hb⟩; obtain ⟨Hc, hc0⟩ := chainA Hc hc0 hb; clear hb kB)
        | ((with_reducible refine (kC _).mono ?_); rintro en w4 ⟨rfl, hb⟩; obtain ⟨Hc, hc0⟩ := chainA Hc hc0 hb; have c7 := fun o => kc _ (Hb.out.trans ((Hc.out.alloc hc0 o).mono hB)); clear hb kC))
      rotate_left
      · have h2 : xC = 0 := by assumption
        have h3 : (eA : Int) = (e : Int) := by assumption
        have h4 : (eB : Int) = (n : Int) := by assumption
        have h5 : (eC : Int) ≤ 4096 := by assumption
        have hx1 : x = 1 := by
          have h6 : ((x.toNat : Nat) : Int) = 1 := by assumption
          have h7 : x.toNat = 1 := by omega
          exact UInt8.toNat_inj.1 (h7.trans rfl)
        have hhead : headIs (K.getD pos []) e n = some eC := by rw [HgD.out, Hdh.out, if_pos ⟨hx1, h2, by omega, by omega, by omega⟩]
        have Hhead := Lib.hid hhead
        obtain ⟨sz, hszz⟩ : ∃ sz, szN eC = sz := ⟨_, rfl⟩
        have kZ := fun W => refSize_any W eC (by omega)
        rw [hszz] at kZ
        have hez : eC ≤ 4096 := by omega
        have hpl := pn_le eC
        have hsz2 : sz = 1 + pn eC := hszz.symm
        obtain ⟨z, hz⟩ : ∃ z : Nat, (pos : Int) + (sz : Int) = (z : Int) := ⟨pos + sz, by omega⟩
        have Hsz := Lib.hid hsz2
        have Hszz := Lib.hid hszz
        have hszb : sz ≤ 5000 := by omega
        have hszp : 1 ≤ sz := by omega
        have Hb5 := fun o => Lib.hid (Hb.out.trans ((Hc.out.alloc hc0 o).mono hB))
        have ho5 := fun o => own_below ho (Hc.out.alloc hc0 o)
        clear hhead c7 c0 hsz2 hszz
        by_cases hfit : z ≤ to
        · have hft : decide ((to : Int) < (z : Int)) = false := by simp; omega
          go_wp2_with (first
            | ((with_reducible refine (kZ _).mono ?_); rintro en w5 ⟨rfl, hw5⟩; rw [hw5] at *))
          go_loopw [19, 20] (fun vs vi wr => ∃ (j i : Nat), vi = .int .i64 i ∧ i = 1 + j ∧ j ≤ pn eC ∧ vs = .string (strOf (bodyF K pos j)) ∧ (∀ m, m < j → (K.getD (pos + 1 + m) []).head? = some 0) ∧ wr.ownsRow w.heap.size 9 1 (.slice A4 n c4) n (tcs acc) ∧ Below w.heap.size w wr) (fun _ vi _ => sz - (intOf vi).toNat)
          case atStart => exact ⟨0, 1, rfl, rfl, Nat.zero_le _, rfl, fun m h => absurd h (by omega), ho5 _, (Hb5 _).out⟩
          case round =>
            clear Hb5 ho5 ho Hb hB Hc hc0
            obtain ⟨j, i, rfl, hij, hj, rfl, hall, ho, hb⟩ := hrel
            have Hb := Lib.hid hb
            have hB := hb.size
            have hbl : (strOf (bodyF K pos j)).size = 63 * j := by rw [strOf_size, bodyF_len H64.out (by rw [HKN.out]; have := Hsz.out; omega)]
            have Hall := Lib.hid hall
            have Hij := Lib.hid hij
            clear hall hb
            by_cases hisz : i < sz
            · have hiz : (i : Int) < (sz : Int) := by omega
              obtain ⟨z2, hz2'⟩ : ∃ z2 : Nat, (pos : Int) + (i : Int) = (z2 : Int) := ⟨pos + i, by omega⟩
              obtain ⟨s2, hs2⟩ : ∃ s2, K[z2]? = some s2 := ⟨_, List.getElem?_eq_getElem (by rw [HKN.out]; omega)⟩
              have hsl2 := H64.out s2 (List.mem_of_getElem? hs2)
              have hgD2 : K.getD (pos + 1 + j) [] = s2 := by rw [show pos + 1 + j = z2 from by omega, List.getD_eq_getElem?_getD, hs2]; rfl
              obtain ⟨q2, o2, e2, hq2, cq2⟩ := text_at hr hs2
              cases e2
              have cz := (Hb.out.cell (p := ⟨q, o + z2, none⟩) hq2).trans cq2
              obtain ⟨y, ys, rfl⟩ : ∃ y ys, s2 = y :: ys := by cases s2 with | nil => simp at hsl2 | cons y ys => exact ⟨y, ys, rfl⟩
              have hyl : (strOf ys).size = 63 := by rw [strOf_size]; simpa using hsl2
              have hsz2' : (strOf (y :: ys)).size = 64 := by rw [strOf_size]; exact hsl2
              have hd2 : (strOf (y :: ys)).extract 1 64 = strOf ys := by
                have := strOf_drop (y :: ys) 1
                rw [hsl2] at this
                exact this
              have hcat : strOf (bodyF K pos j) ++ strOf ys = strOf (bodyF K pos (j + 1)) := by rw [bodyF_succ, hgD2, strOf_app]; rfl
              have HgD2 := Lib.hid hgD2
              have hij2 : i ≤ 100000 := by omega
              have hjj : j + 1 ≤ pn eC := by have := Hsz.out; omega
              clear hgD2 hsl2 hs2 cq2 hij
              go_wp2
              · have hy : (((y.toNat : Nat) : Int) != 0) = true := by assumption
                go_ret2
                refine ⟨A4, c4, acc, pos, by rw [Hn.out]; rfl, ?_, ⟨HU.out, ?_⟩, hpos, Hb.out⟩
                · rw [Hn.out]; obtain ⟨_, _, e6, d6⟩ := Rd.own ho; cases e6; exact d6
                · rw [Hn.out]
                  refine recAt_parts Hhead.out (Bool.eq_false_iff.2 fun h => ?_)
                  have h0 := partsAre_iff.1 h j (by omega)
                  rw [HgD2.out] at h0
                  have h1 : y = 0 := by simpa using h0
                  subst h1
                  exact absurd hy (by decide)
              · have hy : (((y.toNat : Nat) : Int) != 0) = false := by assumption
                have hy2 : y.toNat = 0 := by
                  have h0 : ((y.toNat : Nat) : Int) = 0 := by simpa using hy
                  omega
                have hy0 : y = 0 := UInt8.toNat_inj.1 (hy2.trans rfl)
                refine ⟨⟨j + 1, i + 1, by simp, by have := Hij.out; omega, hjj, rfl, fun m hm => ?_, ho, Hb.out⟩, by simp [intOf]; omega⟩
                by_cases hmj : m < j
                · exact Hall.out m hmj
                · obtain rfl : m = j := by omega
                  rw [HgD2.out, hy0]
                  rfl
            · have hje : j = pn eC := by have := Hsz.out; have := Hij.out; omega
              subst hje
              have hlz2 : decide (i < sz) = false := by simp; omega
              have hle : eC ≤ 63 * pn eC := by unfold pn; omega
              have hex := strOf_takeE (bodyF K pos (pn eC)) eC
              have hU2 := HU.out.snoc (b := (bodyF K pos (pn eC)).take eC) (by rw [Hn.out]; exact recAt_ok Hhead.out hlt (by rw [Hszz.out]; omega) (partsAre_iff.2 Hall.out))
              have hU3 : pos + szN ((bodyF K pos (pn eC)).take eC).length = z := by
                rw [List.length_take, bodyF_len H64.out (by rw [HKN.out]; have := Hsz.out; omega), Nat.min_eq_left hle, Hszz.out]
                omega
              rw [hU3] at hU2
              have HU2 := Lib.hid hU2
              clear hU2 hU3
              generalize bodyF K pos (pn eC) = body at *
              go_wp2_with (first
                | (at_builtin; refine wpList_append_src _ rfl (.tmp 108) (.tmp 112) 33 33 rfl w.heap.size 9 i0 (.string .empty) 1 16 Try.underlying33 hi hz0 hz1 hz2 rfl (by decide) _ _ _ rfl (ho.alloc _) _ 1 [_] rfl (Src.ofSlice _ Try.underlying33 _ 1 1 _ rfl (cell_one_new _ _ _) (fun u hu => by simp at hu; subst hu; rfl)) (by simp only [maxLen]; omega) (by omega) (by simp; omega) ?_; intro v4 w10 hown hg hat))
              go_roundw
              case rel => exact ⟨z, n + 1, _, rfl, by omega, by rw [List.length_append, List.length_singleton, Hn.out], by omega, by rw [tcs_append]; exact hown, HU2.out, (Hb.out.alloc hB _).grown hg (by simp; omega) fun q e => (ho.lt q e).1⟩
              case measure => simp [intOf]; omega
        · have hft : decide ((to : Int) < (z : Int)) = true := by simp; omega
          go_wp2_with (first
            | ((with_reducible refine (kZ _).mono ?_); rintro en w5 ⟨rfl, rfl⟩))
          go_ret2
          refine ⟨A4, c4, acc, pos, by rw [Hn.out]; rfl, ?_, ⟨HU.out, ?_⟩, hpos, (Hb5 _).out⟩
          · rw [Hn.out]; obtain ⟨_, _, e6, d6⟩ := Rd.own (ho5 _); cases e6; exact d6
          · rw [Hn.out]; exact recAt_room Hhead.out (by rw [Hszz.out]; omega)
      all_goals (
        go_ret2
        refine ⟨A4, c4, acc, pos, by rw [Hn.out]; rfl, ?_, ⟨HU.out, ?_⟩, hpos, (Hb.out.trans ((Hc.out.alloc hc0 _).mono hB))⟩
        · rw [Hn.out]; obtain ⟨_, _, e6, d6⟩ := Rd.own (own_below ho (Hc.out.alloc hc0 _)); cases e6; exact d6
        · rw [Hn.out]
          refine recAt_head ?_
          rw [HgD.out, Hdh.out, if_neg]
          rintro ⟨h1, h2, h3, h4, h5⟩
          first | omega | (subst h1; have h9 : ¬ (((1 : UInt8).toNat : Nat) : Int) = 1 := by assumption
                           exact h9 rfl))
    · obtain rfl : pos = to := by omega
      have hlz : decide (pos < pos) = false := by simp
      go_wp2
      go_ret2
      refine ⟨A4, c4, acc, pos, by rw [Hn.out]; rfl, ?_, ⟨HU.out, recAt_out (Nat.le_refl _)⟩, Nat.le_refl _, Hb.out⟩
      rw [Hn.out]; obtain ⟨_, _, e6, d6⟩ := Rd.own ho; cases e6; exact d6
end Go.Proofs.Ytgppaompcnllbaa
