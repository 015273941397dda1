/- FieldsBack walked: it answers true. -/
import Derived.Test.YtoddmaiplinkaaaAwake
import Derived.Test.YtoddmaiplinkaaaCutP
import Derived.Deep.QuietTactic
import Derived.BigQuiet
namespace Go.Proofs.Ytoddmaiplinkaaa
open Go.RowKit

theorem wf_u64b {z : Int} (h : (Lit.int .u64 z).wf = true) : 0 ≤ z ∧ z < 2 ^ 64 := by
  have : 0 ≤ z ∧ z ≤ 18446744073709551615 := by simpa [Lit.wf, IntKind.min, IntKind.max, IntKind.signed, IntKind.bits] using h
  omega
theorem wf_u16 {z : Int} (h : (Lit.int .u16 z).wf = true) : 0 ≤ z ∧ z < 65536 := by
  have : 0 ≤ z ∧ z ≤ 65535 := by simpa [Lit.wf, IntKind.min, IntKind.max, IntKind.signed, IntKind.bits] using h
  omega
theorem texts_boundB (ss : List ByteArray) (m : Nat) (hm : m ≤ 1000000) (h : ∀ s ∈ ss, s.size ≤ m) : (texts ss).length ≤ (m + 9) * ss.length := by
  induction ss with
  | nil => simp [texts]
  | cons s r ih =>
    have h1 := ih fun x hx => h x (List.mem_cons_of_mem _ hx)
    have h2 := h s (List.mem_cons_self ..)
    have h3 := nb_le8 (n := s.size) (by omega)
    simp only [texts, List.flatMap_cons, List.length_append, text_length, List.length_cons] at h1 ⊢
    rw [Nat.mul_succ]
    omega

set_option maxRecDepth 100000 in
set_option maxHeartbeats 2000000 in
theorem fieldsBack_walk (A0 : Option Addr) (n0 c0 : Nat) (z0 : List Int) (A1 : Option Addr) (n1 c1 : Nat) (s1 : List ByteArray) (x2 : Int) (w : World) (r0 : Rd w w.heap.size 1 A0 n0 c0 (z0.map (Value.int .u64))) (f0 : ∀ z ∈ z0, (Lit.int .u64 z).wf = true) (r1 : Rd w w.heap.size 1 A1 n1 c1 (s1.map Value.string)) (f1 : ∀ s ∈ s1, s.size ≤ maxLen) (f2 : (Lit.int .u16 x2).wf = true) :
    Calls Try.prog 5 #[.slice A0 n0 c0, .slice A1 n1 c1, .int .u16 x2] w fun e w' => e = .returned (.bool true) ∧ Below w.heap.size w w' := by
  obtain ⟨i0, hi, hz0, hz1, hz2⟩ := info_parts info_u8
  have R0 := Lib.hid r0
  have R1 := Lib.hid r1
  have F0 : Hid (∀ z ∈ z0, 0 ≤ z ∧ z < 2 ^ 64) := Lib.hid fun z hz => wf_u64b (f0 z hz)
  have F1 := Lib.hid f1
  have hn0 : n0 ≤ 9223372036854775807 := by have := r0.cap; have := r0.capm; unfold maxLen at this; omega
  have hn1 : n1 ≤ 9223372036854775807 := by have := r1.cap; have := r1.capm; unfold maxLen at this; omega
  have L0 : Hid (n0 = z0.length) := Lib.hid (by have := r0.len; simp at this; omega)
  have L1 : Hid (n1 = s1.length) := Lib.hid (by have := r1.len; simp at this; omega)
  obtain ⟨hx0, hx1⟩ := wf_u16 f2
  clear r0 r1 f0 f1 f2
  by_cases h0 : 60 < n0
  · go_enter Try.func5, Try.ntmps5
    go_wp2_with fail
    refine (awake_any w).mono ?_
    rintro e w1 ⟨rfl, hb1⟩
    have Hb1 := Lib.hid hb1
    clear hb1
    go_wp2
    go_ret
    exact ⟨rfl, Hb1.out⟩
  by_cases h1 : 30 < n1
  · go_enter Try.func5, Try.ntmps5
    go_wp2_with fail
    refine (awake_any w).mono ?_
    rintro e w1 ⟨rfl, hb1⟩
    have Hb1 := Lib.hid hb1
    clear hb1
    go_wp2
    go_ret
    exact ⟨rfl, Hb1.out⟩
  go_enter Try.func5, Try.ntmps5
  go_wp2_with fail
  refine (awake_any w).mono ?_
  rintro e w1 ⟨rfl, hb1⟩
  have Hb1 := Lib.hid hb1
  have hs1 := hb1.size
  clear hb1
  go_wp2_with fail
  go_loop [8] (fun i => ∃ k : Nat, k ≤ n1 ∧ i = .int .i64 k ∧ ∀ s ∈ s1.take k, s.size ≤ 400) (fun i => n1 - (intOf i).toNat)
  case atStart => exact ⟨0, Nat.zero_le _, rfl, fun s hs => by simp at hs⟩
  case round =>
    obtain ⟨k1, hk1, rfl, hall⟩ := hrel
    have Hall := Lib.hid hall
    clear hall
    by_cases hlt1 : k1 < n1
    · obtain ⟨b, o, s, rfl, _, hx, hc⟩ := (R1.out.below Hb1.out).getStr hlt1
      have hsz : s.size ≤ 9223372036854775807 := by have := F1.out s (List.mem_of_getElem? hx); unfold maxLen at this; omega
      have hmem : s1.take (k1 + 1) = s1.take k1 ++ [s] := by
        obtain ⟨hl, hx⟩ := List.getElem?_eq_some_iff.1 hx
        rw [List.take_succ_eq_append_getElem hl, hx]
      have Hmem := Lib.hid hmem
      clear hmem hx
      by_cases hbig : 400 < s.size
      · go_wp2
        go_ret
        exact ⟨rfl, Hb1.out⟩
      · go_wp2
        refine ⟨⟨k1 + 1, by omega, by go_num, ?_⟩, by simp [intOf]; omega⟩
        rw [Hmem.out]
        intro t ht
        rcases List.mem_append.1 ht with ht | ht
        · exact Hall.out t ht
        · simp at ht; subst ht; omega
    · have e2 : k1 = n1 := by omega
      subst e2
      have hl1 : s1.take k1 = s1 := List.take_of_length_le (by have := L1.out; omega)
      have Hs : Hid (∀ s ∈ s1, s.size ≤ 400) := Lib.hid (by have := Hall.out; rwa [hl1] at this)
      have hle1 : (texts s1).length ≤ 12270 := by
        have h3 := texts_boundB s1 400 (by omega) Hs.out
        rw [← L1.out] at h3
        omega
      have hle0 : (nums z0).length ≤ 540 := by have := nums_le z0 F0.out; rw [← L0.out] at this; omega
      have hl9 : (num k1).length ≤ 9 := by rw [num_length]; have := nb_le8 (n := k1) (by omega); omega
      have hl91 : 1 ≤ (num k1).length := by rw [num_length]; omega
      obtain ⟨T, hT⟩ : ∃ T, T = num k1 ++ texts s1 := ⟨_, rfl⟩
      have hTl : T.length ≤ 12300 := by rw [hT, List.length_append]; omega
      have hTp : 1 ≤ T.length := by rw [hT, List.length_append]; omega
      obtain ⟨L, hL⟩ : ∃ L, L = nums z0 ++ T := ⟨_, rfl⟩
      have hLl : L.length ≤ 13000 := by rw [hL, List.length_append]; omega
      have hLp : 1 ≤ L.length := by rw [hL, List.length_append]; omega
      have HT := Lib.hid hT
      have HL := Lib.hid hL
      clear hl1 hT hL
      go_wp2_with fail
      refine (put_any A0 n0 c0 z0 _ ((R0.out.below Hb1.out).more hs1) F0.out (by omega)).mono ?_
      rintro e w2 ⟨v2, rfl, hown2, hb2⟩
      have Ho2 := Lib.hid (own_base hown2 hs1)
      have Hb2 : Hid (Below w.heap.size w w2) := Lib.hid (Hb1.out.trans (hb2.mono hs1))
      have hs2 := Hb2.out.size
      clear hown2 hb2
      go_wp2_with fail
      refine (lists_any A1 k1 c1 s1 _ ((R1.out.below Hb2.out).more hs2) (by omega) (by omega)).mono ?_
      rintro e w3 ⟨v3, rfl, hown3, hb3⟩
      rw [← HT.out] at hown3
      obtain ⟨A3, c3, rfl, hr3⟩ := Rd.own hown3
      have Hr3 := Lib.hid hr3
      have Ho3 := Lib.hid (own_below Ho2.out hb3)
      have Hb3 : Hid (Below w.heap.size w w3) := Lib.hid (Hb2.out.trans (hb3.mono hs2))
      have hs3 := Hb3.out.size
      clear hown3 hr3 hb3
      go_wp2_with (at_builtin; (refine wpList_append_src _ rfl (.tmp 42) (.tmp 44) 24 24 rfl w.heap.size 5 i0 (.int .u8 0) 1 1 Try.underlying24 hi hz0 hz1 hz2 rfl (by decide) v2 _ _ rfl Ho3.out _ T.length (bv T) rfl (Rd.src Try.underlying24 Hr3.out (bv_one _)) (by simp only [maxLen]; omega) (by omega) hs3 ?_); (intro v4 w4 hown4 hg4 hat4; have Hb4 : Hid (Below w.heap.size w w4) := Lib.hid (below_of_own Hb3.out hg4 Ho3.out hs3 (Nat.le_refl _)); have hs4 := Hb4.out.size; rw [← bv_append, ← List.length_append, ← HL.out] at hown4; obtain ⟨A4, c4, rfl, hr4⟩ := Rd.own hown4; have Hr4 := Lib.hid hr4; have hcap4 := hr4.cap; have hcm4 : c4 ≤ 9223372036854775807 := (by have := hr4.capm; unfold maxLen at this; omega); clear hown4 hg4 hat4 hr4))
      refine (open_any A4 _ c4 L w4 Hr4.out (by omega)).mono ?_
      rintro e w5 ⟨g, rfl, hg5, hr5, hb5⟩
      have Hr5 := Lib.hid hr5
      have Hb5 := Lib.hid hb5
      clear hr5 hb5
      go_wp2_with fail
      go_loopw [11, 12] (fun i y wr => ∃ k : Nat, k ≤ n0 ∧ i = .int .i64 k ∧ IsR wr g (nums (z0.drop k) ++ T, 0) ∧ Below w4.heap.size w4 wr) (fun i _ _ => n0 - (intOf i).toNat)
      case atStart => exact ⟨0, Nat.zero_le _, rfl, by rw [List.drop_zero, ← HL.out]; exact Hr5.out, Hb5.out⟩
      case round =>
        obtain ⟨k, hk, rfl, hrd, hb⟩ := hrel
        have Hrd := Lib.hid hrd
        have Hb := Lib.hid hb
        clear hrd hb
        by_cases hlt : k < n0
        · have Hbw : Hid (Below w.heap.size w wr) := Lib.hid (Hb4.out.trans (Hb.out.mono hs4))
          obtain ⟨b, o, u, rfl, hbl, hx, hc⟩ := (R0.out.below Hbw.out).getInt hlt
          obtain ⟨hu0, hu1⟩ := F0.out u (List.mem_of_getElem? hx)
          obtain ⟨y, rfl⟩ := Int.eq_ofNat_of_zero_le hu0
          have Hrn : Hid (rnum (nums (z0.drop k) ++ T, 0) = (y, (nums (z0.drop (k + 1)) ++ T, 0))) := Lib.hid (by
            obtain ⟨hl, hx⟩ := List.getElem?_eq_some_iff.1 hx
            rw [List.drop_eq_getElem_cons hl, hx, nums_cons, Int.toNat_natCast, List.append_assoc, rnum_num y (by omega)])
          clear hx hu0 hu1
          go_wp2_with fail
          refine (num_any g _ wr Hrd.out).mono ?_
          rintro e w6 ⟨rfl, hr6, hg6⟩
          rw [Hrn.out] at hr6 ⊢
          have hb6 : Below w4.heap.size w4 w6 := Hb.out.grown hg6 Hb.out.size fun j hj => by simp at hj; omega
          have hc6 : w6.cell? ⟨b, o + k, none⟩ = some (.int .u64 y) := (World.cell?_of_block (w := wr) (a := ⟨b, o + k, none⟩) (hg6.block b (Nat.lt_of_lt_of_le (World.block_lt_of_cell? wr _ hc) (Nat.le_refl _)) (by simp; omega))).trans hc
          have Hr6 := Lib.hid hr6
          have Hb6 := Lib.hid hb6
          clear hr6 hg6 hb6 hc
          go_wp2
          exact ⟨⟨k + 1, by omega, by go_num, Hr6.out, Hb6.out⟩, by simp [intOf]; omega⟩
        · have e3 : k = n0 := by omega
          subst e3
          have hrd2 : IsR wr g (T, 0) := by
            have h := Hrd.out
            rwa [List.drop_of_length_le (by have := L0.out; omega), show nums [] = [] from rfl, List.nil_append] at h
          have Hrd2 := Lib.hid hrd2
          have Hrl : Hid (rlist (T, 0) k1 = (s1.map (fun s => s.data.toList), ([], 0))) := Lib.hid (by
            have h := rlist_list s1 (fun s hs => by have := Hs.out s hs; omega) (by have := L1.out; omega) [] k1
            rw [List.append_nil, ← L1.out, ← HT.out, if_neg (by omega)] at h
            exact h)
          clear hrd2
          go_wp2_with fail
          refine (list_any g _ (k1 : Int) (by omega) (by omega) wr Hrd2.out).mono ?_
          rintro e w6 ⟨v6, rfl, hown6, hr6, hg6⟩
          rw [Int.toNat_natCast, Hrl.out] at hown6 hr6
          rw [tv_map, show (s1.map (fun s => s.data.toList)).length = k1 from by rw [List.length_map]; exact L1.out.symm] at hown6
          obtain ⟨A6, c6, rfl, hl6⟩ := Rd.own hown6
          have hb6 : Below w4.heap.size w4 w6 := Hb.out.grown hg6 Hb.out.size fun j hj => by simp at hj; omega
          have Hl6 := Lib.hid hl6
          have Hr6 := Lib.hid hr6
          have Hb6 := Lib.hid hb6
          have Hbw6 : Hid (Below w.heap.size w w6) := Lib.hid (Hb4.out.trans (hb6.mono hs4))
          have hs6 := hb6.size
          have hs60 := Hbw6.out.size
          clear hown6 hr6 hg6 hl6 hb6
          go_wp2_with fail
          refine (end_any g _ _ Hr6.out).mono ?_
          rintro e w' ⟨rfl, rfl⟩
          rw [show rend ([], 0) = 0 from rfl]
          go_wp2_with fail
          go_loopw [14] (fun i wr => ∃ k : Nat, k ≤ k1 ∧ i = .int .i64 k ∧ Below w6.heap.size w6 wr) (fun i _ => k1 - (intOf i).toNat)
          case atStart => exact ⟨0, Nat.zero_le _, rfl, Below.refl _ _⟩
          case round =>
            obtain ⟨j, hj, rfl, hbj⟩ := hrel
            have Hbj := Lib.hid hbj
            clear hbj
            by_cases hltj : j < k1
            · obtain ⟨b2, o2, sa, rfl, _, hxa, hca⟩ := (Hl6.out.below Hbj.out).getStr hltj
              obtain ⟨b3, o3, sb, rfl, _, hxb, hcb⟩ := (R1.out.below (Hbw6.out.trans (Hbj.out.mono hs60))).getStr hltj
              rw [hxa] at hxb
              simp at hxb
              subst hxb
              have hj0 : (0 : Int) ≤ (j : Int) := by omega
              have hj1 : (j : Int) < (k1 : Int) := by omega
              clear hxa
              go_wp2_with fail
              go_quiet (fail)
              go_wp2
              exact ⟨⟨j + 1, by omega, by go_num, ⟨Hbj.out.os, Hbj.out.tape, Hbj.out.output, Hbj.out.size, Hbj.out.block⟩⟩, by simp [intOf]; omega⟩
            · clear hj
              obtain ⟨cn, hcn⟩ : ∃ cn : Nat, x2 % (L.length : Int) = cn := Int.eq_ofNat_of_zero_le (Int.emod_nonneg _ (by omega))
              have hcl : cn < L.length := by have := Int.emod_lt_of_pos x2 (show (0 : Int) < (L.length : Int) by omega); omega
              have Hb7 : Hid (Below w.heap.size w wr) := Lib.hid (Hbw6.out.trans (Hbj.out.mono hs60))
              have hs7 := Hb7.out.size
              have hpre : Rd wr wr.heap.size 1 A4 cn c4 (bv (L.take cn)) := by
                have h := (((Hr4.out.below (Hb6.out.trans (Hbj.out.mono hs6))).more (Hb6.out.trans (Hbj.out.mono hs6)).size).pre (k := cn) (by omega))
                rwa [Nat.mul_one, bv_take] at h
              have Hpre := Lib.hid hpre
              clear hpre
              go_wp2_with fail
              refine (open_any A4 cn c4 (L.take cn) wr Hpre.out (by omega)).mono ?_
              rintro e w8 ⟨q, rfl, hq8, hr8, hb8⟩
              have Hr8 := Lib.hid hr8
              have Hb8 : Hid (Below w.heap.size w w8) := Lib.hid (Hb7.out.trans (hb8.mono hs7))
              have hq8' : w.heap.size ≤ q := by omega
              clear hr8 hb8 hq8
              go_wp2_with fail
              go_loopw [16] (fun i W => ∃ (k2 : Nat) (st : RSt), k2 ≤ k ∧ i = .int .i64 k2 ∧ IsR W q st ∧ CutOf st (nums (z0.drop k2) ++ T) ∧ Below w.heap.size w W) (fun i _ => k - (intOf i).toNat)
              case atStart => exact ⟨0, _, Nat.zero_le _, rfl, Hr8.out, .inl ⟨cn, by rw [List.drop_zero, ← HL.out]; exact hcl, by rw [List.drop_zero, ← HL.out]⟩, Hb8.out⟩
              case round =>
                obtain ⟨k2, st, hk2, rfl, hrd2, hcut, hb9⟩ := hrel
                have Hrd9 := Lib.hid hrd2
                have Hcut := Lib.hid hcut
                have Hb9 := Lib.hid hb9
                clear hrd2 hcut hb9
                by_cases hlt2 : k2 < k
                · go_wp2_with fail
                  refine (num_any q st _ Hrd9.out).mono ?_
                  rintro e w10 ⟨rfl, hr10, hg10⟩
                  have Hr10 := Lib.hid hr10
                  have Hb10 : Hid (Below w.heap.size w w10) := Lib.hid (Hb9.out.grown hg10 Hb9.out.size fun j hj => by simp at hj; omega)
                  have Hc10 : Hid (CutOf (rnum st).2 (nums (z0.drop (k2 + 1)) ++ T)) := Lib.hid (by
                    have hl : k2 < z0.length := by have := L0.out; omega
                    have hz := F0.out (z0[k2]'hl) (List.getElem_mem _)
                    have h := Hcut.out
                    rw [List.drop_eq_getElem_cons hl, nums_cons, List.append_assoc] at h
                    exact (rnum_cut (by omega) h).1)
                  clear hr10 hg10
                  go_wp2
                  exact ⟨⟨k2 + 1, _, by omega, by go_num, Hr10.out, Hc10.out, Hb10.out⟩, by simp [intOf]; omega⟩
                · have e4 : k2 = k := by omega
                  subst e4
                  have Hend : Hid ((rlist st k1).2.2 = 10) := Lib.hid (by
                    have h := Hcut.out
                    rw [List.drop_of_length_le (by have := L0.out; omega), show nums [] = [] from rfl, List.nil_append, HT.out, L1.out] at h
                    have h2 := rlist_cut s1 (fun s hs => by have := Hs.out s hs; omega) (by have := L1.out; omega) st h
                    rwa [← L1.out] at h2)
                  go_wp2_with fail
                  refine (list_any q st (k1 : Int) (by omega) (by omega) _ Hrd9.out).mono ?_
                  rintro e w11 ⟨v11, rfl, hown11, hr11, hg11⟩
                  rw [Int.toNat_natCast] at hr11
                  have Hr11 := Lib.hid hr11
                  have Hb11 : Hid (Below w.heap.size w w11) := Lib.hid (Hb9.out.grown hg11 Hb9.out.size fun j hj => by simp at hj; omega)
                  clear hown11 hr11 hg11
                  go_wp2_with fail
                  refine (err_any q _ _ Hr11.out).mono ?_
                  rintro e w' ⟨rfl, rfl⟩
                  rw [Hend.out]
                  go_wp2
                  go_ret
                  exact ⟨rfl, Hb11.out⟩
end Go.Proofs.Ytoddmaiplinkaaa
