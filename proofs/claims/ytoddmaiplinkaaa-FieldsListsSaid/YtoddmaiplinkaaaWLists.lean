/- FieldsLists walked: it answers true. -/
import Derived.Test.YtoddmaiplinkaaaAwake
import Derived.Test.YtoddmaiplinkaaaRef
import Derived.Test.YtoddmaiplinkaaaPlain
namespace Go.Proofs.Ytoddmaiplinkaaa
open Go.RowKit

theorem wf_i8 {z : Int} (h : (Lit.int .i8 z).wf = true) : -128 ≤ z ∧ z ≤ 127 := by
  simpa [Lit.wf, IntKind.min, IntKind.max, IntKind.signed, IntKind.bits] using h
theorem conv_later' {P : Program} {w : World} {n c : Nat} {A : Option Addr} {l : List UInt8} (h : Rd w w.heap.size 1 A n c (bv l)) (src dst e : TypeId) (hs : P.underlying src = some (.slice e)) (he : P.underlying e = some (.int .u8)) (hd : P.underlying dst = some .string) :
    ∀ W, Below w.heap.size w W → (convert src dst (.slice A n c)).run P W = .ok (.string (strOf l)) W := fun _ hb => (h.below hb).conv src dst e hs he hd
theorem texts_bound' (ss : List ByteArray) (m : Nat) (hm : m ≤ 1000000) (h : ∀ s ∈ ss, s.size ≤ m) : (texts ss).length ≤ (m + 9) * ss.length := by
  induction ss with
  | nil => simp [texts]
  | cons s r ih =>
    have h1 := ih fun x hx => h x (List.mem_cons_of_mem _ hx)
    have h2 := h s (List.mem_cons_self ..)
    have h3 := nb_le8 (n := s.size) (by omega)
    simp only [texts, List.flatMap_cons, List.length_append, text_length, List.length_cons] at h1 ⊢
    rw [Nat.mul_succ]
    omega
theorem texts_one (s : ByteArray) : texts [s] = text s := by simp [texts]

set_option maxRecDepth 100000 in
set_option maxHeartbeats 4000000 in
theorem fieldsLists_walk (A0 : Option Addr) (n0 c0 : Nat) (s0 : List ByteArray) (x1 : Int) (w : World) (r0 : Rd w w.heap.size 1 A0 n0 c0 (s0.map Value.string)) (f0 : ∀ s ∈ s0, s.size ≤ maxLen) (f1 : (Lit.int .i8 x1).wf = true) :
    Calls Try.prog 7 #[.slice A0 n0 c0, .int .i8 x1] w fun e w' => e = .returned (.bool true) ∧ Below w.heap.size w w' := by
  have R0 := Lib.hid r0
  have F0 := Lib.hid f0
  have hn0 : n0 ≤ 9223372036854775807 := by have := r0.cap; have := r0.capm; unfold maxLen at this; omega
  have hls : n0 = s0.length := by have := r0.len; simp at this; omega
  have Hls := Lib.hid hls
  obtain ⟨hx1, hx2⟩ := wf_i8 f1
  clear r0 f0 f1 hls
  by_cases h0 : 30 < n0
  · go_enter Try.func7, Try.ntmps7
    go_wp2_with fail
    refine (awake_any w).mono ?_
    rintro e w1 ⟨rfl, hb1⟩
    have Hb1 := Lib.hid hb1
    clear hb1
    go_wp2
    go_ret
    exact ⟨rfl, Hb1.out⟩
  go_enter Try.func7, Try.ntmps7
  go_wp2_with fail
  refine (awake_any w).mono ?_
  rintro e w1 ⟨rfl, hb1⟩
  have Hb1 := Lib.hid hb1
  have hs1 := hb1.size
  clear hb1
  go_wp2_with fail
  refine (put_any _ 1 1 [(n0 : Int)] _ (Rd.litX w1 #[.int .u64 n0] 27 1 1 _ rfl rfl (by simp [maxLen])) (fun u hu => by simp at hu; subst hu; omega) (by omega)).mono ?_
  rintro e w2 ⟨v2, rfl, hown2, hb2⟩
  obtain ⟨A2, c2, rfl, hr2⟩ := Rd.own hown2
  rw [show nums [(n0 : Int)] = num n0 from by simp [nums]] at hr2 ⊢
  have hcv2 := hr2.conv (P := Try.prog) 24 9 5 Try.underlying24 Try.underlying5 Try.underlying9
  have hb2' : Below w.heap.size w w2 := (Hb1.out.alloc hs1 _).trans (hb2.mono (by simp; omega))
  have Hb2 := Lib.hid hb2'
  have hz9 : (num n0).length ≤ 9 := by rw [num_length]; have := nb_le8 (n := n0) (by omega); omega
  clear hown2 hr2 hb2 hb2'
  go_wp2_with fail
  clear hcv2
  go_loopw [6, 7, 8, 9] (fun t z i y wr => ∃ k : Nat, k ≤ n0 ∧ i = .int .i64 k ∧ t = .string (strOf (num n0 ++ texts (s0.take k))) ∧ z = .int .i64 (texts (s0.take k)).length ∧ (∀ s ∈ s0.take k, s.size ≤ 300) ∧ Below w.heap.size w wr) (fun _ _ i _ _ => n0 - (intOf i).toNat)
  case atStart => exact ⟨0, Nat.zero_le _, rfl, by simp [texts], rfl, (fun s hs => by simp at hs), Hb2.out⟩
  case round =>
    obtain ⟨k, hk, rfl, rfl, rfl, hall, hb⟩ := hrel
    have Hall := Lib.hid hall
    have Hb := Lib.hid hb
    have hbs := hb.size
    have hle : (texts (s0.take k)).length ≤ 309 * k := by
      have h1 := texts_bound' (s0.take k) 300 (by omega) hall
      have h2 : (s0.take k).length ≤ k := List.length_take_le _ _
      exact Nat.le_trans h1 (Nat.mul_le_mul_left _ h2)
    clear hb hall
    by_cases hlt : k < n0
    · obtain ⟨b, o, s, rfl, _, hx, hc⟩ := (R0.out.below Hb.out).getStr hlt
      have hsz : s.size ≤ 9223372036854775807 := by have := F0.out s (List.mem_of_getElem? hx); unfold maxLen at this; omega
      by_cases hbig : 300 < s.size
      · clear hx
        go_wp2
        go_ret
        exact ⟨rfl, Hb.out⟩
      · have hsn := texts_snoc s0 k s hx
        have Hsn := Lib.hid hsn
        have hmem : s0.take (k + 1) = s0.take k ++ [s] := by
          obtain ⟨hl, hx⟩ := List.getElem?_eq_some_iff.1 hx
          rw [List.take_succ_eq_append_getElem hl, hx]
        have Hmem := Lib.hid hmem
        have htl : (text s).length ≤ 309 := by rw [text_length]; have := nb_le8 (n := s.size) (by omega); omega
        clear hx hsn hmem
        have hz1 : (strOf (num n0 ++ texts (s0.take k))).size ≤ 1000000 := by rw [strOf_size, List.length_append]; omega
        have hz2 : (strOf (text s)).size = (text s).length := strOf_size _
        go_wp2_with fail
        refine (texts_any _ 1 1 [s] _ (Rd.litX wr #[.string s] 9 1 1 _ rfl rfl (by simp [maxLen])) (by rw [texts_one]; omega)).mono ?_
        rintro e w3 ⟨v3, rfl, hown3, hb3⟩
        rw [texts_one] at hown3
        obtain ⟨A3, c3, rfl, hr3⟩ := Rd.own hown3
        have hcv3 := hr3.conv (P := Try.prog) 24 9 5 Try.underlying24 Try.underlying5 Try.underlying9
        have hb3' : Below w.heap.size w w3 := (Hb.out.alloc hbs _).trans (hb3.mono (by simp; omega))
        have Hb3 := Lib.hid hb3'
        clear hown3 hr3 hb3 hb3'
        go_wp2
        refine ⟨⟨k + 1, by omega, by go_num, ?_, ?_, ?_, Hb3.out⟩, by simp [intOf]; omega⟩
        · rw [Hsn.out, strOf_append, List.append_assoc]
        · rw [Hsn.out, List.length_append]; go_num
        · rw [Hmem.out]
          intro t ht
          rcases List.mem_append.1 ht with ht | ht
          · exact Hall.out t ht
          · simp at ht; subst ht; omega
    · have e : k = n0 := by omega
      subst e
      have hl0 : s0.take k = s0 := List.take_of_length_le (by have := Hls.out; omega)
      rw [hl0] at hle ⊢
      have hle2 : (texts s0).length ≤ 9270 := by omega
      have hrl : ∀ most, rlist (num k ++ texts s0, 0) most = if most < k then ([], (texts s0, 13)) else (s0.map (fun s => s.data.toList), ([], 0)) := fun most => by
        have h := rlist_list s0 (fun s hs => by have h := Hall.out; rw [hl0] at h; have := h s hs; omega) (by have := Hls.out; omega) [] most
        rw [← Hls.out] at h
        simpa using h
      obtain ⟨L, hL⟩ : ∃ L, L = num k ++ texts s0 := ⟨_, rfl⟩
      have hLl : L.length ≤ 10000 := by rw [hL, List.length_append]; omega
      rw [← hL] at hrl ⊢
      have HL := Lib.hid hL
      have Hrl := Lib.hid hrl
      clear hrl hl0 hle hL
      by_cases hfit : k ≤ x1.toNat <;> by_cases hneg : x1 < 0
      all_goals
        go_wp2_with fail
        refine (lists_any A0 k c0 s0 _ ((R0.out.below Hb.out).more hbs) (by omega) (by omega)).mono ?_
        rintro e w4 ⟨v4, rfl, hown4, hb4⟩
        rw [← HL.out] at hown4
        obtain ⟨A4, c4, rfl, hr4⟩ := Rd.own hown4
        have Hr4 := Lib.hid hr4
        have hb4' : Below w.heap.size w w4 := Hb.out.trans (hb4.mono hbs)
        have Hb4 := Lib.hid hb4'
        have hs4 := hb4'.size
        clear hown4 hr4 hb4 hb4'
        go_wp2_with fail
        refine (open_any A4 _ c4 _ w4 Hr4.out (by omega)).mono ?_
        rintro e w5 ⟨g, rfl, hg5, hr5, hb5⟩
        have Hb5 := Lib.hid hb5
        have hs5 := hb5.size
        have Hr5 := Lib.hid hr5
        clear hb5 hr5
        go_wp2_with fail
        refine (list_any g _ x1 (by omega) (by omega) w5 Hr5.out).mono ?_
        rintro e w6 ⟨v6, rfl, hown6, hr6, hg6⟩
        rw [Hrl.out] at hown6 hr6
        have hb46 : Below w4.heap.size w4 w6 := Hb5.out.grown hg6 hs5 fun j hj => by simp at hj; omega
        have Hb6 : Hid (Below w.heap.size w w6) := Lib.hid (Hb4.out.trans (hb46.mono hs4))
        have hcv : (convert 24 9 (.slice A4 L.length c4)).run Try.prog w6 = .ok (.string (strOf L)) w6 := (Hr4.out.below hb46).conv 24 9 5 Try.underlying24 Try.underlying5 Try.underlying9
        clear hg6 hb46
      · rw [if_neg (by omega)] at hown6 hr6
        rw [show (s0.map (fun s => s.data.toList)).length = k from by rw [List.length_map]; exact Hls.out.symm] at hown6
        have hd : decide (k = 0) = true := by simp; omega
        obtain ⟨A6, c6, rfl, hl6⟩ := Rd.own hown6
        have Hr6 := Lib.hid hr6
        clear hown6 hr6 hl6
        go_wp2_with (first
          | (go_at_call 25; refine (err_any g _ _ Hr6.out).mono ?_; rintro e w' ⟨rfl, rfl⟩)
          | (go_at_call 24; refine (left_any g _ _ Hr6.out).mono ?_; rintro e w' ⟨rfl, rfl⟩))
        go_ret
        exact ⟨rfl, Hb6.out⟩
      · rw [if_neg (by omega)] at hown6 hr6
        rw [show (s0.map (fun s => s.data.toList)).length = k from by rw [List.length_map]; exact Hls.out.symm] at hown6
        have hd : decide ((k : Int) ≤ x1) = true := by simp; omega
        obtain ⟨A6, c6, rfl, hl6⟩ := Rd.own hown6
        have Hr6 := Lib.hid hr6
        clear hown6 hr6 hl6
        go_wp2_with (first
          | (go_at_call 25; refine (err_any g _ _ Hr6.out).mono ?_; rintro e w' ⟨rfl, rfl⟩)
          | (go_at_call 24; refine (left_any g _ _ Hr6.out).mono ?_; rintro e w' ⟨rfl, rfl⟩))
        go_ret
        exact ⟨rfl, Hb6.out⟩
      · rw [if_pos (by omega)] at hown6 hr6
        have hd : decide (k = 0) = false := by simp; omega
        obtain ⟨A6, c6, rfl, hl6⟩ := Rd.own hown6
        have Hr6 := Lib.hid hr6
        clear hown6 hr6 hl6
        go_wp2_with (first
          | (go_at_call 25; refine (err_any g _ _ Hr6.out).mono ?_; rintro e w' ⟨rfl, rfl⟩)
          | (go_at_call 24; refine (left_any g _ _ Hr6.out).mono ?_; rintro e w' ⟨rfl, rfl⟩))
        go_ret
        exact ⟨rfl, Hb6.out⟩
      · rw [if_pos (by omega)] at hown6 hr6
        have hd : decide ((k : Int) ≤ x1) = false := by simp; omega
        obtain ⟨A6, c6, rfl, hl6⟩ := Rd.own hown6
        have Hr6 := Lib.hid hr6
        clear hown6 hr6 hl6
        go_wp2_with (first
          | (go_at_call 25; refine (err_any g _ _ Hr6.out).mono ?_; rintro e w' ⟨rfl, rfl⟩)
          | (go_at_call 24; refine (left_any g _ _ Hr6.out).mono ?_; rintro e w' ⟨rfl, rfl⟩))
        go_ret
        exact ⟨rfl, Hb6.out⟩
end Go.Proofs.Ytoddmaiplinkaaa
