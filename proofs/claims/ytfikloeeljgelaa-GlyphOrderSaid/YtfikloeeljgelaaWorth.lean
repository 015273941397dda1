/- What the law's own function says a valid text's runes are worth. Conditions: the text is valid and has at most a hundred bytes. -/
import Derived.Test.YtfikloeeljgelaaRefs
import Derived.Test.YtfikloeeljgelaaBase
namespace Go.Proofs.Ytfikloeeljgelaa
open Go.RowKit

theorem info_int : (Try.prog.info? 3).map (fun i => (i.zero, i.size, i.bytes)) = some (some (.int .i64 0), 1, 8) := by kernel_rfl
theorem info_parts {t : TypeId} {z : Value} {k m : Nat} (h : (Try.prog.info? t).map (fun i => (i.zero, i.size, i.bytes)) = some (some z, k, m)) : ∃ i, Try.prog.info? t = some i ∧ i.zero = some z ∧ i.size = k ∧ i.bytes = m := by
  obtain ⟨i, hi, he⟩ := Option.map_eq_some_iff.1 h
  simp only [Prod.mk.injEq] at he
  exact ⟨i, hi, he.1, he.2.1, he.2.2⟩
/-- What the first k runes are worth, as cells. -/
def wv (s : ByteArray) (k : Nat) : List Value := (List.range k).map fun j => Value.int .i64 (rn s (plc s j))
theorem wv_length (s : ByteArray) (k : Nat) : (wv s k).length = k := by simp [wv]
theorem wv_succ (s : ByteArray) (k : Nat) : wv s (k + 1) = wv s k ++ [Value.int .i64 (rn s (plc s k))] := by simp [wv, List.range_succ]
theorem wv_get (s : ByteArray) {k j : Nat} (h : j < k) : (wv s k)[j]? = some (Value.int .i64 (rn s (plc s j))) := by simp [wv, h]
/-- What the first j bytes of a rune are worth, the first one cut to x. -/
def px (s : ByteArray) (p x : Nat) : Nat → Nat
  | 0 => x
  | 1 => x
  | j + 2 => px s p x (j + 1) * 64 + bt s (p + (j + 1)) % 64
theorem px_le (s : ByteArray) (p x : Nat) (h : x ≤ 255) : px s p x 1 ≤ 255 ∧ px s p x 2 ≤ 16383 ∧ px s p x 3 ≤ 1048575 ∧ px s p x 4 ≤ 67108863 := by
  simp only [px]
  refine ⟨h, by omega, by omega, by omega⟩
theorem rn_px {s : ByteArray} {p : Nat} (h : p < s.size) (hb : brk s p = false) :
    (wd s p = 1 ∧ rn s p = px s p (bt s p) 1) ∨ (wd s p = 2 ∧ rn s p = px s p (bt s p % 32) 2) ∨ (wd s p = 3 ∧ rn s p = px s p (bt s p % 16) 3) ∨ (wd s p = 4 ∧ rn s p = px s p (bt s p % 8) 4) := by
  unfold brk rn wd at *
  rw [decode_dec s p h] at *
  simp only [px, Nat.zero_add, Nat.reduceAdd]
  rcases dec_cases (s.size - p) (bt s p) (bt s (p + 1)) (bt s (p + 2)) (bt s (p + 3)) with ⟨c, e⟩ | ⟨c, e⟩ | ⟨c, e⟩ | ⟨c, e⟩ | ⟨c, e⟩
  · rw [e]; exact .inl ⟨rfl, rfl⟩
  · rw [e]; exact .inr (.inl ⟨rfl, rfl⟩)
  · rw [e]; exact .inr (.inr (.inl ⟨rfl, by dsimp only; omega⟩))
  · rw [e]; exact .inr (.inr (.inr ⟨rfl, by dsimp only; omega⟩))
  · rw [e] at hb; simp at hb

set_option maxRecDepth 100000 in
set_option maxHeartbeats 4000000 in
theorem worth_any (s : ByteArray) (w : World) (hs : s.size ≤ 100) (hv : validS s = true) :
    Calls Try.prog 20 #[.string s] w fun e w' => ∃ v, e = .returned v ∧ w'.ownsRow w.heap.size 3 1 v (cnt s) (wv s (cnt s)) ∧ Below w.heap.size w w' := by
  obtain ⟨i0, hi, hz0, hz1, hz2⟩ := info_parts info_int
  have HV := Lib.hid (validS_iff.1 hv)
  clear hv
  go_enter Try.func20, Try.ntmps20
  go_wp2
  go_loopw [3, 4] (fun o i wr => ∃ k : Nat, k ≤ cnt s ∧ i = .int .i64 (plc s k) ∧ wr.ownsRow w.heap.size 3 1 o k (wv s k) ∧ Below w.heap.size w wr) (fun _ i _ => s.size - (intOf i).toNat)
  case atStart => exact ⟨0, Nat.zero_le _, rfl, World.ownsRow_nil w w.heap.size 3 1, Below.refl _ _⟩
  case round =>
    obtain ⟨k, hk, rfl, hown, hb⟩ := hrel
    have Ho := Lib.hid hown
    have Hb := Lib.hid hb
    have hbs := hb.size
    clear hown hb
    have hc := cnt_le s
    have hl := plc_le s k
    by_cases h : plc s k < s.size
    · have hk2 := lt_cnt.2 h
      have hw := wd_pos h
      have hwl := wd_le h
      have HS := Lib.hid (plc_succ h)
      have hb := HV.out k hk2
      have hlw : lng s (plc s k) = wd s (plc s k) := by unfold lng; rw [hb]; simp
      have hbt := bt_eq s _ h
      have HW := Lib.hid (wv_succ s k)
      have kS : ∀ W, _ := fun W => step_any s _ (plc s k) W rfl (by omega) h
      have kL : ∀ W, _ := fun W => long_any s (plc s k) W (by omega) h
      rw [hlw] at kL
      rcases rn_px h hb with ⟨hn, hx⟩ | ⟨hn, hx⟩ | ⟨hn, hx⟩ | ⟨hn, hx⟩
      · rw [hn] at kL hwl
        obtain ⟨x0, hx0⟩ : ∃ x0 : Nat, x0 = (bt s (plc s k)) := ⟨_, rfl⟩
        have e0 : ((s[plc s k]).toNat : Int) = (x0 : Int) := by rw [hx0, hbt]; first | done | omega
        have hB1 : (0 : Int) ≤ ((s[plc s k]).toNat : Int) := by omega
        have hB2 : ((s[plc s k]).toNat : Int) ≤ 255 := by have := bt_lt s (plc s k); rw [hbt] at this; omega
        have b0 : x0 ≤ 255 := by have := bt_lt s (plc s k); omega
        rw [← hx0] at hx
        have HX := Lib.hid hx
        have HN := Lib.hid hn
        obtain ⟨l1, l2, l3, l4⟩ := px_le s (plc s k) x0 b0
        clear hx hn hx0 hb hlw hbt
        go_wp2_with ((with_reducible refine (kL _).mono ?_); rintro e w' ⟨rfl, rfl⟩)
        go_loop [6, 7] (fun x j => ∃ m : Nat, 1 ≤ m ∧ m ≤ 1 ∧ j = .int .i64 m ∧ x = .int .i64 (px s (plc s k) x0 m)) (fun _ j => 1 - (intOf j).toNat)
        case atStart => exact ⟨1, by omega, by omega, rfl, by first | rfl | (show _ = Value.int .i64 (x0 : Int); rw [← e0]; first | done | rfl)⟩
        case round =>
          obtain ⟨m, hm1, hm2, rfl, rfl⟩ := hrel
          by_cases hm : m < 1
          · exfalso; omega
          · obtain rfl : m = 1 := by omega
            have HP : Hid (px s (plc s k) x0 1 = rn s (plc s k)) := Lib.hid (by rw [HX.out])
            clear HX l1 l2 l3 l4 hm hm1 hm2 e0 b0
            go_wp2_with (first
              | (at_builtin; go_must (refine wpList_append_src _ rfl (.tmp 45) (.tmp 47) 31 31 rfl w.heap.size 3 i0 (.int .i64 0) 1 8 Try.underlying31 hi hz0 hz1 hz2 rfl (by decide) _ k _ rfl (Ho.out.alloc _) _ 1 [.int .i64 (px s (plc s k) x0 1 : Nat)] rfl (Src.ofSlice _ Try.underlying31 _ 1 1 _ rfl (cell_one_new _ _ _) (fun u hu => by simp at hu; subst hu; rfl)) (by simp only [maxLen]; omega) (by omega) (by simp; omega) ?_); intro v2 w2 hown2 hg2 hat2; have hb2 : Below w.heap.size w w2 := below_of_own (Hb.out.alloc hbs _) hg2 (Ho.out.alloc _) (by simp; omega) (Nat.le_refl _); clear hg2 hat2; have Ho2 := Lib.hid hown2; have Hb2 := Lib.hid hb2; clear hown2 hb2)
              | ((with_reducible refine (kS _).mono ?_); rintro e w' ⟨rfl, rfl⟩))
            go_roundw
            case rel =>
              refine ⟨k + 1, by omega, by rw [HS.out]; go_num, ?_, Hb2.out⟩
              rw [HW.out, ← HP.out]; exact Ho2.out
            case measure => simp [intOf]; omega
      · rw [hn] at kL hwl
        obtain ⟨x0, hx0⟩ : ∃ x0 : Nat, x0 = (bt s (plc s k) % 32) := ⟨_, rfl⟩
        have e0 : ((s[plc s k]).toNat : Int) % 32 = (x0 : Int) := by rw [hx0, hbt]; first | done | omega
        have hB1 : (0 : Int) ≤ ((s[plc s k]).toNat : Int) := by omega
        have hB2 : ((s[plc s k]).toNat : Int) ≤ 255 := by have := bt_lt s (plc s k); rw [hbt] at this; omega
        have b0 : x0 ≤ 255 := by have := bt_lt s (plc s k); omega
        rw [← hx0] at hx
        have HX := Lib.hid hx
        have HN := Lib.hid hn
        obtain ⟨l1, l2, l3, l4⟩ := px_le s (plc s k) x0 b0
        clear hx hn hx0 hb hlw hbt
        go_wp2_with ((with_reducible refine (kL _).mono ?_); rintro e w' ⟨rfl, rfl⟩)
        have hot := Ho.out.alloc (.cells #[.int .i64 0, .int .i64 0, .int .i64 32, .int .i64 16, .int .i64 8] 3)
        have hbt2 := Hb.out.alloc hbs (.cells #[.int .i64 0, .int .i64 0, .int .i64 32, .int .i64 16, .int .i64 8] 3)
        generalize World.alloc wr _ = wt at hot hbt2 ⊢
        have Ho := Lib.hid hot
        have Hb := Lib.hid hbt2
        have hbs := hbt2.size
        clear hot hbt2
        go_loop [6, 7] (fun x j => ∃ m : Nat, 1 ≤ m ∧ m ≤ 2 ∧ j = .int .i64 m ∧ x = .int .i64 (px s (plc s k) x0 m)) (fun _ j => 2 - (intOf j).toNat)
        case atStart => exact ⟨1, by omega, by omega, rfl, by first | rfl | (show _ = Value.int .i64 (x0 : Int); rw [← e0]; first | done | rfl)⟩
        case round =>
          obtain ⟨m, hm1, hm2, rfl, rfl⟩ := hrel
          by_cases hm : m < 2
          · have hps : px s (plc s k) x0 (m + 1) = px s (plc s k) x0 m * 64 + bt s (plc s k + m) % 64 := by
              obtain ⟨j, rfl⟩ : ∃ j, m = j + 1 := ⟨m - 1, by omega⟩
              rfl
            have hpb : px s (plc s k) x0 m ≤ 67108863 := by
              obtain rfl | rfl | rfl : m = 1 ∨ m = 2 ∨ m = 3 := by omega
              all_goals omega
            have hq : plc s k + m < s.size := by omega
            rw [bt_eq s _ hq] at hps
            have HPS := Lib.hid hps
            have hB3 : (0 : Int) ≤ ((s[plc s k + m]).toNat : Int) := by omega
            have hB4 : ((s[plc s k + m]).toNat : Int) ≤ 255 := by have := bt_lt s (plc s k + m); rw [bt_eq s _ hq] at this; omega
            have hq2 : 0 ≤ (plc s k : Int) + m ∧ (plc s k : Int) + m < s.size := by omega
            clear hps
            go_wp2
            go_round
            case rel => exact ⟨m + 1, by omega, by omega, by go_num, by rw [HPS.out]; go_num⟩
            case measure => simp [intOf]; omega
          · obtain rfl : m = 2 := by omega
            have HP : Hid (px s (plc s k) x0 2 = rn s (plc s k)) := Lib.hid (by rw [HX.out])
            clear HX l1 l2 l3 l4 hm hm1 hm2 e0 b0
            go_wp2_with (first
              | (at_builtin; go_must (refine wpList_append_src _ rfl (.tmp 45) (.tmp 47) 31 31 rfl w.heap.size 3 i0 (.int .i64 0) 1 8 Try.underlying31 hi hz0 hz1 hz2 rfl (by decide) _ k _ rfl (Ho.out.alloc _) _ 1 [.int .i64 (px s (plc s k) x0 2 : Nat)] rfl (Src.ofSlice _ Try.underlying31 _ 1 1 _ rfl (cell_one_new _ _ _) (fun u hu => by simp at hu; subst hu; rfl)) (by simp only [maxLen]; omega) (by omega) (by simp; omega) ?_); intro v2 w2 hown2 hg2 hat2; have hb2 : Below w.heap.size w w2 := below_of_own (Hb.out.alloc hbs _) hg2 (Ho.out.alloc _) (by simp; omega) (Nat.le_refl _); clear hg2 hat2; have Ho2 := Lib.hid hown2; have Hb2 := Lib.hid hb2; clear hown2 hb2)
              | ((with_reducible refine (kS _).mono ?_); rintro e w' ⟨rfl, rfl⟩))
            go_roundw
            case rel =>
              refine ⟨k + 1, by omega, by rw [HS.out]; go_num, ?_, Hb2.out⟩
              rw [HW.out, ← HP.out]; exact Ho2.out
            case measure => simp [intOf]; omega
      · rw [hn] at kL hwl
        obtain ⟨x0, hx0⟩ : ∃ x0 : Nat, x0 = (bt s (plc s k) % 16) := ⟨_, rfl⟩
        have e0 : ((s[plc s k]).toNat : Int) % 16 = (x0 : Int) := by rw [hx0, hbt]; first | done | omega
        have hB1 : (0 : Int) ≤ ((s[plc s k]).toNat : Int) := by omega
        have hB2 : ((s[plc s k]).toNat : Int) ≤ 255 := by have := bt_lt s (plc s k); rw [hbt] at this; omega
        have b0 : x0 ≤ 255 := by have := bt_lt s (plc s k); omega
        rw [← hx0] at hx
        have HX := Lib.hid hx
        have HN := Lib.hid hn
        obtain ⟨l1, l2, l3, l4⟩ := px_le s (plc s k) x0 b0
        clear hx hn hx0 hb hlw hbt
        go_wp2_with ((with_reducible refine (kL _).mono ?_); rintro e w' ⟨rfl, rfl⟩)
        have hot := Ho.out.alloc (.cells #[.int .i64 0, .int .i64 0, .int .i64 32, .int .i64 16, .int .i64 8] 3)
        have hbt2 := Hb.out.alloc hbs (.cells #[.int .i64 0, .int .i64 0, .int .i64 32, .int .i64 16, .int .i64 8] 3)
        generalize World.alloc wr _ = wt at hot hbt2 ⊢
        have Ho := Lib.hid hot
        have Hb := Lib.hid hbt2
        have hbs := hbt2.size
        clear hot hbt2
        go_loop [6, 7] (fun x j => ∃ m : Nat, 1 ≤ m ∧ m ≤ 3 ∧ j = .int .i64 m ∧ x = .int .i64 (px s (plc s k) x0 m)) (fun _ j => 3 - (intOf j).toNat)
        case atStart => exact ⟨1, by omega, by omega, rfl, by first | rfl | (show _ = Value.int .i64 (x0 : Int); rw [← e0]; first | done | rfl)⟩
        case round =>
          obtain ⟨m, hm1, hm2, rfl, rfl⟩ := hrel
          by_cases hm : m < 3
          · have hps : px s (plc s k) x0 (m + 1) = px s (plc s k) x0 m * 64 + bt s (plc s k + m) % 64 := by
              obtain ⟨j, rfl⟩ : ∃ j, m = j + 1 := ⟨m - 1, by omega⟩
              rfl
            have hpb : px s (plc s k) x0 m ≤ 67108863 := by
              obtain rfl | rfl | rfl : m = 1 ∨ m = 2 ∨ m = 3 := by omega
              all_goals omega
            have hq : plc s k + m < s.size := by omega
            rw [bt_eq s _ hq] at hps
            have HPS := Lib.hid hps
            have hB3 : (0 : Int) ≤ ((s[plc s k + m]).toNat : Int) := by omega
            have hB4 : ((s[plc s k + m]).toNat : Int) ≤ 255 := by have := bt_lt s (plc s k + m); rw [bt_eq s _ hq] at this; omega
            have hq2 : 0 ≤ (plc s k : Int) + m ∧ (plc s k : Int) + m < s.size := by omega
            clear hps
            go_wp2
            go_round
            case rel => exact ⟨m + 1, by omega, by omega, by go_num, by rw [HPS.out]; go_num⟩
            case measure => simp [intOf]; omega
          · obtain rfl : m = 3 := by omega
            have HP : Hid (px s (plc s k) x0 3 = rn s (plc s k)) := Lib.hid (by rw [HX.out])
            clear HX l1 l2 l3 l4 hm hm1 hm2 e0 b0
            go_wp2_with (first
              | (at_builtin; go_must (refine wpList_append_src _ rfl (.tmp 45) (.tmp 47) 31 31 rfl w.heap.size 3 i0 (.int .i64 0) 1 8 Try.underlying31 hi hz0 hz1 hz2 rfl (by decide) _ k _ rfl (Ho.out.alloc _) _ 1 [.int .i64 (px s (plc s k) x0 3 : Nat)] rfl (Src.ofSlice _ Try.underlying31 _ 1 1 _ rfl (cell_one_new _ _ _) (fun u hu => by simp at hu; subst hu; rfl)) (by simp only [maxLen]; omega) (by omega) (by simp; omega) ?_); intro v2 w2 hown2 hg2 hat2; have hb2 : Below w.heap.size w w2 := below_of_own (Hb.out.alloc hbs _) hg2 (Ho.out.alloc _) (by simp; omega) (Nat.le_refl _); clear hg2 hat2; have Ho2 := Lib.hid hown2; have Hb2 := Lib.hid hb2; clear hown2 hb2)
              | ((with_reducible refine (kS _).mono ?_); rintro e w' ⟨rfl, rfl⟩))
            go_roundw
            case rel =>
              refine ⟨k + 1, by omega, by rw [HS.out]; go_num, ?_, Hb2.out⟩
              rw [HW.out, ← HP.out]; exact Ho2.out
            case measure => simp [intOf]; omega
      · rw [hn] at kL hwl
        obtain ⟨x0, hx0⟩ : ∃ x0 : Nat, x0 = (bt s (plc s k) % 8) := ⟨_, rfl⟩
        have e0 : ((s[plc s k]).toNat : Int) % 8 = (x0 : Int) := by rw [hx0, hbt]; first | done | omega
        have hB1 : (0 : Int) ≤ ((s[plc s k]).toNat : Int) := by omega
        have hB2 : ((s[plc s k]).toNat : Int) ≤ 255 := by have := bt_lt s (plc s k); rw [hbt] at this; omega
        have b0 : x0 ≤ 255 := by have := bt_lt s (plc s k); omega
        rw [← hx0] at hx
        have HX := Lib.hid hx
        have HN := Lib.hid hn
        obtain ⟨l1, l2, l3, l4⟩ := px_le s (plc s k) x0 b0
        clear hx hn hx0 hb hlw hbt
        go_wp2_with ((with_reducible refine (kL _).mono ?_); rintro e w' ⟨rfl, rfl⟩)
        have hot := Ho.out.alloc (.cells #[.int .i64 0, .int .i64 0, .int .i64 32, .int .i64 16, .int .i64 8] 3)
        have hbt2 := Hb.out.alloc hbs (.cells #[.int .i64 0, .int .i64 0, .int .i64 32, .int .i64 16, .int .i64 8] 3)
        generalize World.alloc wr _ = wt at hot hbt2 ⊢
        have Ho := Lib.hid hot
        have Hb := Lib.hid hbt2
        have hbs := hbt2.size
        clear hot hbt2
        go_loop [6, 7] (fun x j => ∃ m : Nat, 1 ≤ m ∧ m ≤ 4 ∧ j = .int .i64 m ∧ x = .int .i64 (px s (plc s k) x0 m)) (fun _ j => 4 - (intOf j).toNat)
        case atStart => exact ⟨1, by omega, by omega, rfl, by first | rfl | (show _ = Value.int .i64 (x0 : Int); rw [← e0]; first | done | rfl)⟩
        case round =>
          obtain ⟨m, hm1, hm2, rfl, rfl⟩ := hrel
          by_cases hm : m < 4
          · have hps : px s (plc s k) x0 (m + 1) = px s (plc s k) x0 m * 64 + bt s (plc s k + m) % 64 := by
              obtain ⟨j, rfl⟩ : ∃ j, m = j + 1 := ⟨m - 1, by omega⟩
              rfl
            have hpb : px s (plc s k) x0 m ≤ 67108863 := by
              obtain rfl | rfl | rfl : m = 1 ∨ m = 2 ∨ m = 3 := by omega
              all_goals omega
            have hq : plc s k + m < s.size := by omega
            rw [bt_eq s _ hq] at hps
            have HPS := Lib.hid hps
            have hB3 : (0 : Int) ≤ ((s[plc s k + m]).toNat : Int) := by omega
            have hB4 : ((s[plc s k + m]).toNat : Int) ≤ 255 := by have := bt_lt s (plc s k + m); rw [bt_eq s _ hq] at this; omega
            have hq2 : 0 ≤ (plc s k : Int) + m ∧ (plc s k : Int) + m < s.size := by omega
            clear hps
            go_wp2
            go_round
            case rel => exact ⟨m + 1, by omega, by omega, by go_num, by rw [HPS.out]; go_num⟩
            case measure => simp [intOf]; omega
          · obtain rfl : m = 4 := by omega
            have HP : Hid (px s (plc s k) x0 4 = rn s (plc s k)) := Lib.hid (by rw [HX.out])
            clear HX l1 l2 l3 l4 hm hm1 hm2 e0 b0
            go_wp2_with (first
              | (at_builtin; go_must (refine wpList_append_src _ rfl (.tmp 45) (.tmp 47) 31 31 rfl w.heap.size 3 i0 (.int .i64 0) 1 8 Try.underlying31 hi hz0 hz1 hz2 rfl (by decide) _ k _ rfl (Ho.out.alloc _) _ 1 [.int .i64 (px s (plc s k) x0 4 : Nat)] rfl (Src.ofSlice _ Try.underlying31 _ 1 1 _ rfl (cell_one_new _ _ _) (fun u hu => by simp at hu; subst hu; rfl)) (by simp only [maxLen]; omega) (by omega) (by simp; omega) ?_); intro v2 w2 hown2 hg2 hat2; have hb2 : Below w.heap.size w w2 := below_of_own (Hb.out.alloc hbs _) hg2 (Ho.out.alloc _) (by simp; omega) (Nat.le_refl _); clear hg2 hat2; have Ho2 := Lib.hid hown2; have Hb2 := Lib.hid hb2; clear hown2 hb2)
              | ((with_reducible refine (kS _).mono ?_); rintro e w' ⟨rfl, rfl⟩))
            go_roundw
            case rel =>
              refine ⟨k + 1, by omega, by rw [HS.out]; go_num, ?_, Hb2.out⟩
              rw [HW.out, ← HP.out]; exact Ho2.out
            case measure => simp [intOf]; omega
    · have e := cnt_eq h fun j hj => lt_cnt.1 (by omega)
      have E := Lib.hid e
      clear e
      go_wp2
      go_ret
      exact ⟨_, rfl, by rw [E.out]; exact Ho.out, Hb.out⟩
end Go.Proofs.Ytfikloeeljgelaa
