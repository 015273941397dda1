/- ParseNames walked: it answers true. -/
import Derived.BigQuiet
import Derived.Deep.QuietTactic
import Derived.Deep.DeepCutAuto
import Derived.Test.YtdndncodpepdfaaNameW
import Derived.Test.YtdndncodpepdfaaNamF
import Derived.Test.YtdndncodpepdfaaFrame
namespace Go.Proofs.Ytdndncodpepdfaa
open Go.RowKit

theorem cell_below {w w' : World} {a : Addr} {v : Value} (h : w.cell? a = some v) (hb : Below w.heap.size w w') : w'.cell? a = some v := (hb.cell (World.block_lt_of_cell? _ _ h)).trans h
theorem info_str : (Try.prog.info? 9).map (fun i => (i.zero, i.size, i.bytes)) = some (some (.string .empty), 1, 16) := by kernel_rfl
theorem strs_one (l : List ByteArray) (n : Nat) : ∀ u ∈ (l.map Value.string).take (n * 1), u.oneCell' = true := by
  intro u hu
  obtain ⟨x, _, rfl⟩ := List.mem_map.1 (List.mem_of_mem_take hu)
  rfl
theorem str_at {l : List ByteArray} {k : Nat} {x : ByteArray} (h : l[k]? = some x) (hk : k < 8) : ([] ++ (l.map Value.string).take (8 * 1))[k]? = some (.string x) := by
  rw [List.nil_append, List.getElem?_take, if_pos (by omega), List.getElem?_map, h]
  rfl
theorem own_frozen {w : World} {B : Nat} {e : TypeId} {size n g c : Nat} {xs : List Value} (h : w.ownsRow B e size (.slice (some ⟨g, 0, none⟩) n c) n xs) : ∀ j, w.frozen? ⟨g, j, none⟩ = false := by
  intro j
  rcases h.2 with ⟨h1, _⟩ | ⟨g2, cap, cur, h1, _, hh, _⟩
  · cases h1
  · cases h1
    simp [World.frozen?, hh]
theorem cell_setS {w : World} {g k j : Nat} {u : Value} {x : ByteArray} (hk : w.cell? ⟨g, k, none⟩ = some u) (hj : w.cell? ⟨g, j, none⟩ = some (.string x)) : (w.setCell ⟨g, k, none⟩ (.string ⟨#[116, 121, 112, 101]⟩)).cell? ⟨g, j, none⟩ = some (.string (if k = j then sType else x)) := by
  by_cases e : k = j
  · subst e
    rw [if_pos rfl]
    simp [hk, go_sem]
    rfl
  · rw [if_neg e]
    simp [hj, go_sem]
theorem ite_size {p : Prop} [Decidable p] {x : ByteArray} (h : x.size ≤ 96) : (if p then sType else x).size ≤ 96 := by
  split
  · decide
  · exact h
theorem nmS_lit (a b c d e f g h : ByteArray) : nmS a b c d e f g h = ⟨#[116, 121, 112, 101, 32]⟩ ++ a ++ ⟨#[32, 123, 32, 114, 101, 108, 32]⟩ ++ b ++ ⟨#[32, 40, 32]⟩ ++ c ++ ⟨#[32, 44, 32]⟩ ++ d ++ ⟨#[32, 44, 32]⟩ ++ e ++ ⟨#[32, 41, 32, 58, 32]⟩ ++ f ++ ⟨#[32, 35, 32]⟩ ++ g ++ ⟨#[32, 105, 115, 32]⟩ ++ h ++ ⟨#[32, 59, 32, 125]⟩ := rfl
set_option maxRecDepth 100000 in
set_option maxHeartbeats 4000000 in
theorem parseNames_core (A0 : Option Addr) (n0 c0 : Nat) (s0 : List ByteArray) (n1 : Nat) (w : World) (r0 : Rd w w.heap.size 1 A0 n0 c0 (s0.map Value.string)) (hn1 : n1 ≤ 255) :
    Calls Try.prog 7 #[.slice A0 n0 c0, .int .u8 n1] w fun e w' => e = .returned (.bool true) ∧ Below w.heap.size w w' := by
  have hl : n0 = s0.length := by have := r0.len; rw [List.length_map] at this; omega
  subst hl
  by_cases h8 : s0.length < 8
  · have hd : (s0.length : Int) < 8 := by omega
    go_enter Try.func7, Try.ntmps7
    go_wp2_with ((with_reducible refine (awake7_any _).mono ?_); rintro e w1 ⟨rfl, hb1⟩)
    go_ret
    exact ⟨rfl, hb1⟩
  have hd : ¬ ((s0.length : Int) < 8) := by omega
  go_enter Try.func7, Try.ntmps7
  go_wp2_with ((with_reducible refine (awake7_any _).mono ?_); rintro e w1 ⟨rfl, hb1⟩)
  go_loopw [6] (fun vi wx => ∃ i : Nat, vi = .int .i64 i ∧ i ≤ 8 ∧ Below w.heap.size w wx ∧ ∀ j x, j < i → s0[j]? = some x → x.size ≤ 96 ∧ nmB x = true) (fun vi _ => 8 - (intOf vi).toNat)
  case atStart => exact ⟨0, rfl, Nat.zero_le _, hb1, fun j x hj => absurd hj (Nat.not_lt_zero _)⟩
  case round =>
    obtain ⟨i, rfl, hi, hbx, hall⟩ := hrel
    have Hall := Lib.hid hall
    clear hall
    by_cases hi8 : i < 8
    · have hdi : (i : Int) < 8 := by omega
      have hin : i < s0.length := by omega
      have hdin : (i : Int) < (s0.length : Nat) := by omega
      obtain ⟨b, o, u, rfl, hlt, hu, hc⟩ := (r0.below hbx).get hin
      obtain ⟨x, hx⟩ : ∃ x, s0[i]? = some x := ⟨s0[i], List.getElem?_eq_getElem (by omega)⟩
      rw [List.getElem?_map, hx] at hu
      simp only [Option.map_some, Option.some.injEq] at hu
      subst hu
      by_cases h96 : 96 < x.size
      · have hdx : (96 : Int) < (x.size : Nat) := by omega
        have Hr := Lib.hid r0
        clear r0 hx
        go_wp2_with fail
        try go_ret
        exact ⟨rfl, hbx⟩
      · have hdx : ¬ ((96 : Int) < (x.size : Nat)) := by omega
        have kn := fun W => lname_any x (by omega) W
        have Hr := Lib.hid r0
        have HX := Lib.hid hx
        clear r0 hx
        cases hb : nmB x with
        | false =>
          rw [hb] at kn
          go_wp2_with ((with_reducible refine (kn _).mono ?_); rintro e w2 ⟨rfl, hb2⟩)
          try go_ret
          exact ⟨rfl, hbx.trans (hb2.mono hbx.size)⟩
        | true =>
          have hb' := hb
          rw [hb] at kn
          go_wp2_with ((with_reducible refine (kn _).mono ?_); rintro e w2 ⟨rfl, hb2⟩)
          refine ⟨⟨i + 1, by go_num, by omega, hbx.trans (hb2.mono hbx.size), fun j y hj hy => ?_⟩, ?_⟩
          · by_cases e : j = i
            · subst e
              rw [HX.out] at hy
              cases hy
              exact ⟨by omega, hb'⟩
            · exact Hall.out j y (by omega) hy
          · simp [intOf]; omega
    · have hdi : ¬ ((i : Int) < 8) := by omega
      obtain rfl : i = 8 := by omega
      obtain ⟨sa, ea⟩ : ∃ x, s0[0]? = some x := ⟨s0[0], List.getElem?_eq_getElem (by omega)⟩
      obtain ⟨za, ma⟩ := Hall.out 0 sa (by omega) ea
      have fa := nmB_yes za ma
      obtain ⟨sb, eb⟩ : ∃ x, s0[1]? = some x := ⟨s0[1], List.getElem?_eq_getElem (by omega)⟩
      obtain ⟨zb, mb⟩ := Hall.out 1 sb (by omega) eb
      have fb := nmB_yes zb mb
      obtain ⟨sc, ec⟩ : ∃ x, s0[2]? = some x := ⟨s0[2], List.getElem?_eq_getElem (by omega)⟩
      obtain ⟨zc, mc⟩ := Hall.out 2 sc (by omega) ec
      have fc := nmB_yes zc mc
      obtain ⟨sd, ed⟩ : ∃ x, s0[3]? = some x := ⟨s0[3], List.getElem?_eq_getElem (by omega)⟩
      obtain ⟨zd, md⟩ := Hall.out 3 sd (by omega) ed
      have fd := nmB_yes zd md
      obtain ⟨se, ee⟩ : ∃ x, s0[4]? = some x := ⟨s0[4], List.getElem?_eq_getElem (by omega)⟩
      obtain ⟨ze, me⟩ := Hall.out 4 se (by omega) ee
      have fe := nmB_yes ze me
      obtain ⟨sf, ef⟩ : ∃ x, s0[5]? = some x := ⟨s0[5], List.getElem?_eq_getElem (by omega)⟩
      obtain ⟨zf, mf⟩ := Hall.out 5 sf (by omega) ef
      have ff := nmB_yes zf mf
      obtain ⟨sg, eg⟩ : ∃ x, s0[6]? = some x := ⟨s0[6], List.getElem?_eq_getElem (by omega)⟩
      obtain ⟨zg, mg⟩ := Hall.out 6 sg (by omega) eg
      have fg := nmB_yes zg mg
      obtain ⟨sh, eh⟩ : ∃ x, s0[7]? = some x := ⟨s0[7], List.getElem?_eq_getElem (by omega)⟩
      obtain ⟨zh, mh⟩ := Hall.out 7 sh (by omega) eh
      have fh := nmB_yes zh mh
      obtain ⟨b, o, rfl, hlt, hcs⟩ := (r0.below hbx).at_ (by omega)
      have ca := hcs 0 (.string sa) (by rw [List.getElem?_map, ea]; rfl)
      have cb := hcs 1 (.string sb) (by rw [List.getElem?_map, eb]; rfl)
      have cc := hcs 2 (.string sc) (by rw [List.getElem?_map, ec]; rfl)
      have cd := hcs 3 (.string sd) (by rw [List.getElem?_map, ed]; rfl)
      have ce := hcs 4 (.string se) (by rw [List.getElem?_map, ee]; rfl)
      have cf := hcs 5 (.string sf) (by rw [List.getElem?_map, ef]; rfl)
      have cg := hcs 6 (.string sg) (by rw [List.getElem?_map, eg]; rfl)
      have ch := hcs 7 (.string sh) (by rw [List.getElem?_map, eh]; rfl)
      simp only [Nat.add_zero] at ca
      have hgood := nm_good fa fb fc fd fe ff fg fh
      have hsz := nm_size za zb zc zd ze zf zg zh
      have kp := fun W => parse_named _ (by omega) hgood W
      rw [nmS_lit] at kp
      have hbs : (¬ 9223372036854775807 < 5 + sa.size) ∧ (¬ 9223372036854775807 < 5 + sa.size + 7) ∧ (¬ 9223372036854775807 < 5 + sa.size + 7 + sb.size) ∧ (¬ 9223372036854775807 < 5 + sa.size + 7 + sb.size + 3) ∧ (¬ 9223372036854775807 < 5 + sa.size + 7 + sb.size + 3 + sc.size) ∧ (¬ 9223372036854775807 < 5 + sa.size + 7 + sb.size + 3 + sc.size + 3) ∧ (¬ 9223372036854775807 < 5 + sa.size + 7 + sb.size + 3 + sc.size + 3 + sd.size) ∧ (¬ 9223372036854775807 < 5 + sa.size + 7 + sb.size + 3 + sc.size + 3 + sd.size + 3) ∧ (¬ 9223372036854775807 < 5 + sa.size + 7 + sb.size + 3 + sc.size + 3 + sd.size + 3 + se.size) ∧ (¬ 9223372036854775807 < 5 + sa.size + 7 + sb.size + 3 + sc.size + 3 + sd.size + 3 + se.size + 5) ∧ (¬ 9223372036854775807 < 5 + sa.size + 7 + sb.size + 3 + sc.size + 3 + sd.size + 3 + se.size + 5 + sf.size) ∧ (¬ 9223372036854775807 < 5 + sa.size + 7 + sb.size + 3 + sc.size + 3 + sd.size + 3 + se.size + 5 + sf.size + 3) ∧ (¬ 9223372036854775807 < 5 + sa.size + 7 + sb.size + 3 + sc.size + 3 + sd.size + 3 + se.size + 5 + sf.size + 3 + sg.size) ∧ (¬ 9223372036854775807 < 5 + sa.size + 7 + sb.size + 3 + sc.size + 3 + sd.size + 3 + se.size + 5 + sf.size + 3 + sg.size + 4) ∧ (¬ 9223372036854775807 < 5 + sa.size + 7 + sb.size + 3 + sc.size + 3 + sd.size + 3 + se.size + 5 + sf.size + 3 + sg.size + 4 + sh.size) ∧ (¬ 9223372036854775807 < 5 + sa.size + 7 + sb.size + 3 + sc.size + 3 + sd.size + 3 + se.size + 5 + sf.size + 3 + sg.size + 4 + sh.size + 4) := by refine ⟨?_, ?_, ?_, ?_, ?_, ?_, ?_, ?_, ?_, ?_, ?_, ?_, ?_, ?_, ?_, ?_⟩ <;> omega
      obtain ⟨b0, b1, b2, b3, b4, b5, b6, b7, b8, b9, b10, b11, b12, b13, b14, b15⟩ := hbs
      have hcap : (8 : Int) ≤ (c0 : Nat) := by have := r0.cap; omega
      obtain ⟨k, hk⟩ : ∃ k : Nat, (n1 : Int) % 8 = (k : Int) := ⟨n1 % 8, by omega⟩
      have hk8 : (k : Int) < 8 := by omega
      have HR := Lib.hid r0
      have HF := Lib.hid (And.intro fa (And.intro fb (And.intro fc (And.intro fd (And.intro fe (And.intro ff (And.intro fg fh)))))))
      have HE := Lib.hid (And.intro ea (And.intro eb (And.intro ec (And.intro ed (And.intro ee (And.intro ef (And.intro eg eh)))))))
      have HZ := Lib.hid (And.intro za (And.intro zb (And.intro zc (And.intro zd (And.intro ze (And.intro zf (And.intro zg zh)))))))
      have HK := Lib.hid kp
      have HB := Lib.hid hbx
      clear r0 hgood hsz Hall fa fb fc fd fe ff fg fh ma mb mc md me mf mg mh hcs ea eb ec ed ee ef eg eh za zb zc zd ze zf zg zh kp hbx hi hi8 h8 hb1
      have d0 : (0 : Int) < (s0.length : Nat) := by omega
      have d1 : (1 : Int) < (s0.length : Nat) := by omega
      have d2 : (2 : Int) < (s0.length : Nat) := by omega
      have d3 : (3 : Int) < (s0.length : Nat) := by omega
      have d4 : (4 : Int) < (s0.length : Nat) := by omega
      have d5 : (5 : Int) < (s0.length : Nat) := by omega
      have d6 : (6 : Int) < (s0.length : Nat) := by omega
      have d7 : (7 : Int) < (s0.length : Nat) := by omega
      go_wp2_with fail
      generalize hw9 : wr = w9 at *
      go_cut [7] from 42 to 82 (fun sx wc => sx = .string (⟨#[116, 121, 112, 101, 32]⟩ ++ sa ++ ⟨#[32, 123, 32, 114, 101, 108, 32]⟩ ++ sb ++ ⟨#[32, 40, 32]⟩ ++ sc ++ ⟨#[32, 44, 32]⟩ ++ sd ++ ⟨#[32, 44, 32]⟩ ++ se ++ ⟨#[32, 41, 32, 58, 32]⟩ ++ sf ++ ⟨#[32, 35, 32]⟩ ++ sg ++ ⟨#[32, 105, 115, 32]⟩ ++ sh ++ ⟨#[32, 59, 32, 125]⟩) ∧ ∃ nq, wc = w9.drewN nq)
      case first =>
        as_aux_lemma =>
          go_quiet (fail)
          go_wp2
          go_meet
          exact ⟨rfl, nq, rfl⟩
      case rest =>
      obtain ⟨rfl, nq, rfl⟩ := hcut
      clear b0 b1 b2 b3 b4 b5 b6 b7 b8 b9 b10 b11 b12 b13 b14 b15
      replace ca : (w9.drewN nq).cell? _ = _ := ca
      replace cb : (w9.drewN nq).cell? _ = _ := cb
      replace cc : (w9.drewN nq).cell? _ = _ := cc
      replace cd : (w9.drewN nq).cell? _ = _ := cd
      replace ce : (w9.drewN nq).cell? _ = _ := ce
      replace cf : (w9.drewN nq).cell? _ = _ := cf
      replace cg : (w9.drewN nq).cell? _ = _ := cg
      replace ch : (w9.drewN nq).cell? _ = _ := ch
      replace HB : Hid (Below w.heap.size w (w9.drewN nq)) := Lib.hid (HB.out.trans ⟨rfl, rfl, rfl, Nat.le_refl _, fun _ _ => rfl⟩)
      generalize w9.drewN nq = wA at *
      have HKS := HK.out
      generalize ⟨#[116, 121, 112, 101, 32]⟩ ++ sa ++ ⟨#[32, 123, 32, 114, 101, 108, 32]⟩ ++ sb ++ ⟨#[32, 40, 32]⟩ ++ sc ++ ⟨#[32, 44, 32]⟩ ++ sd ++ ⟨#[32, 44, 32]⟩ ++ se ++ ⟨#[32, 41, 32, 58, 32]⟩ ++ sf ++ ⟨#[32, 35, 32]⟩ ++ sg ++ ⟨#[32, 105, 115, 32]⟩ ++ sh ++ ⟨#[32, 59, 32, 125]⟩ = S0 at *
      go_wp2_with ((with_reducible refine (HKS _).mono ?_); rintro e w2 ⟨⟨A, c, rfl, hv⟩, hb2⟩; obtain ⟨g, c3, vr, e1, hr, g0, g1⟩ := hv.get (i := 0) rfl; cases e1; obtain ⟨gr, cr, vs, vo, rfl, hs, ho, r0, r1, r2, r3, r4, r5⟩ := hr.get (i := 0) rfl; obtain ⟨gs, cs, rfl, q0, q1⟩ := hs.get (i := 0) rfl; obtain ⟨go, co, rfl, o0, o1, o2⟩ := ho.get (i := 0) rfl; have l1 := World.block_lt_of_cell? _ _ g1; have l2 := World.block_lt_of_cell? _ _ r5; have l3 := World.block_lt_of_cell? _ _ q0; have l4 := World.block_lt_of_cell? _ _ o0; dsimp only at l1 l2 l3 l4 g0 g1 r0 r1 r2 r3 r4 r5 q0 q1 o0 o1 o2; clear hv hr hs ho; replace ca := cell_below ca hb2; replace cb := cell_below cb hb2; replace cc := cell_below cc hb2; replace cd := cell_below cd hb2; replace ce := cell_below ce hb2; replace cf := cell_below cf hb2; replace cg := cell_below cg hb2; replace ch := cell_below ch hb2; have lb := World.block_lt_of_cell? _ _ ca; dsimp only at lb)
      simp only [List.append]
      go_cut [197] from 112 to 197 (fun sx wc => sx = .bool false ∧ ∃ nq, wc = ((w2.alloc (.cells #[.slice (some ⟨g, 0, none⟩) 1 c] 25)).alloc (.cells #[.string sb, .string sc, .string sd, .string se, .slice (some ⟨gs, 0, none⟩) 1 cs, .slice (some ⟨go, 0, none⟩) 1 co] 41)).drewN nq)
      case first =>
        as_aux_lemma =>
          go_quiet (fail)
          go_wp2
          go_meet
          exact ⟨rfl, nq, rfl⟩
      case rest =>
      obtain ⟨rfl, nq, rfl⟩ := hcut
      have hBw : Below w2.heap.size w2 (((w2.alloc (.cells #[.slice (some ⟨g, 0, none⟩) 1 c] 25)).alloc (.cells #[.string sb, .string sc, .string sd, .string se, .slice (some ⟨gs, 0, none⟩) 1 cs, .slice (some ⟨go, 0, none⟩) 1 co] 41)).drewN nq) := (((Below.refl _ w2).alloc (Nat.le_refl _) (.cells #[.slice (some ⟨g, 0, none⟩) 1 c] 25)).alloc (size_alloc (Nat.le_refl _)) (.cells #[.string sb, .string sc, .string sd, .string se, .slice (some ⟨gs, 0, none⟩) 1 cs, .slice (some ⟨go, 0, none⟩) 1 co] 41)).trans ⟨rfl, rfl, rfl, Nat.le_refl _, fun _ _ => rfl⟩
      replace ca := cell_below ca hBw
      replace cb := cell_below cb hBw
      replace cc := cell_below cc hBw
      replace cd := cell_below cd hBw
      replace ce := cell_below ce hBw
      replace cf := cell_below cf hBw
      replace cg := cell_below cg hBw
      replace ch := cell_below ch hBw
      replace HB := Lib.hid ((HB.out.trans (hb2.mono HB.out.size)).trans (hBw.mono (Nat.le_trans HB.out.size hb2.size)))
      clear hBw hb2 g0 g1 r0 r1 r2 r3 r4 r5 q0 q1 o0 o1 o2 l1 l2 l3 l4 lb
      generalize ((w2.alloc (.cells #[.slice (some ⟨g, 0, none⟩) 1 c] 25)).alloc (.cells #[.string sb, .string sc, .string sd, .string se, .slice (some ⟨gs, 0, none⟩) 1 cs, .slice (some ⟨go, 0, none⟩) 1 co] 41)).drewN nq = wB at *
      have hrB := ((HR.out.below HB.out).pre (k := 8) (by omega)).src Try.underlying46 (strs_one s0 8)
      obtain ⟨i0, hi0, hz0, hz1, hz2⟩ := info_parts info_str
      have HS := Lib.hid hrB
      have hBz := HB.out.size
      clear hrB
      go_wp2_with (at_builtin; refine wpList_append_src _ rfl (.tmp 201) (.tmp 203) 46 46 rfl wB.heap.size 9 i0 (.string .empty) 1 16 Try.underlying46 hi0 hz0 hz1 hz2 rfl (by decide) _ 0 [] rfl (World.ownsRow_nil _ _ _ _) _ 8 ((s0.map Value.string).take (8 * 1)) rfl HS.out (by simp only [maxLen]; omega) (by omega) (Nat.le_refl _) ?_; intro v1 wC hown1 hg1 hat1; obtain ⟨gm, cm, e5, hgm1, hgm2, hmc⟩ := own_at hown1 (by decide); subst e5; have hBC := below_of_own (HB.out) hg1 (World.ownsRow_nil wB wB.heap.size 9 1) hBz hBz; have hmf := own_frozen hown1; have hgB := (hown1.lt gm rfl).1; obtain ⟨sk, hsk⟩ : ∃ x, s0[k]? = some x := ⟨s0[k]'(by omega), List.getElem?_eq_getElem (by omega)⟩; have hmk := hmc k (.string sk) (str_at hsk (by omega)); have HMC := Lib.hid hmc; have HBC := Lib.hid hBC; clear hat1 hg1 hmc hBC hown1)
      obtain ⟨ta, hta⟩ : ∃ t, t = if k = 0 then sType else sa := ⟨_, rfl⟩
      obtain ⟨tb, htb⟩ : ∃ t, t = if k = 1 then sType else sb := ⟨_, rfl⟩
      obtain ⟨tc, htc⟩ : ∃ t, t = if k = 2 then sType else sc := ⟨_, rfl⟩
      obtain ⟨td, htd⟩ : ∃ t, t = if k = 3 then sType else sd := ⟨_, rfl⟩
      obtain ⟨te, hte⟩ : ∃ t, t = if k = 4 then sType else se := ⟨_, rfl⟩
      obtain ⟨tf, htf⟩ : ∃ t, t = if k = 5 then sType else sf := ⟨_, rfl⟩
      obtain ⟨tg, htg⟩ : ∃ t, t = if k = 6 then sType else sg := ⟨_, rfl⟩
      obtain ⟨th, hth⟩ : ∃ t, t = if k = 7 then sType else sh := ⟨_, rfl⟩
      obtain ⟨fa, fb, fc, fd, fe, ff, fg, fh⟩ := HF.out
      obtain ⟨ea, eb, ec, ed, ee, ef, eg, eh⟩ := HE.out
      obtain ⟨za, zb, zc, zd, ze, zf, zg, zh⟩ := HZ.out
      obtain ⟨p, hbad, hat⟩ := nm_bad fa fb fc fd fe ff fg fh (k := k) (by omega) hta htb htc htd hte htf htg hth
      have ya : ta.size ≤ 96 := by rw [hta]; exact ite_size za
      have yb : tb.size ≤ 96 := by rw [htb]; exact ite_size zb
      have yc : tc.size ≤ 96 := by rw [htc]; exact ite_size zc
      have yd : td.size ≤ 96 := by rw [htd]; exact ite_size zd
      have ye : te.size ≤ 96 := by rw [hte]; exact ite_size ze
      have yf : tf.size ≤ 96 := by rw [htf]; exact ite_size zf
      have yg : tg.size ≤ 96 := by rw [htg]; exact ite_size zg
      have yh : th.size ≤ 96 := by rw [hth]; exact ite_size zh
      have ua : (wC.setCell ⟨gm, k, none⟩ (.string ⟨#[116, 121, 112, 101]⟩)).cell? ⟨gm, 0, none⟩ = some (.string ta) := by rw [hta]; exact cell_setS hmk (HMC.out 0 _ (str_at ea (by omega)))
      have ub : (wC.setCell ⟨gm, k, none⟩ (.string ⟨#[116, 121, 112, 101]⟩)).cell? ⟨gm, 1, none⟩ = some (.string tb) := by rw [htb]; exact cell_setS hmk (HMC.out 1 _ (str_at eb (by omega)))
      have uc : (wC.setCell ⟨gm, k, none⟩ (.string ⟨#[116, 121, 112, 101]⟩)).cell? ⟨gm, 2, none⟩ = some (.string tc) := by rw [htc]; exact cell_setS hmk (HMC.out 2 _ (str_at ec (by omega)))
      have ud : (wC.setCell ⟨gm, k, none⟩ (.string ⟨#[116, 121, 112, 101]⟩)).cell? ⟨gm, 3, none⟩ = some (.string td) := by rw [htd]; exact cell_setS hmk (HMC.out 3 _ (str_at ed (by omega)))
      have ue : (wC.setCell ⟨gm, k, none⟩ (.string ⟨#[116, 121, 112, 101]⟩)).cell? ⟨gm, 4, none⟩ = some (.string te) := by rw [hte]; exact cell_setS hmk (HMC.out 4 _ (str_at ee (by omega)))
      have uf : (wC.setCell ⟨gm, k, none⟩ (.string ⟨#[116, 121, 112, 101]⟩)).cell? ⟨gm, 5, none⟩ = some (.string tf) := by rw [htf]; exact cell_setS hmk (HMC.out 5 _ (str_at ef (by omega)))
      have ug : (wC.setCell ⟨gm, k, none⟩ (.string ⟨#[116, 121, 112, 101]⟩)).cell? ⟨gm, 6, none⟩ = some (.string tg) := by rw [htg]; exact cell_setS hmk (HMC.out 6 _ (str_at eg (by omega)))
      have uh : (wC.setCell ⟨gm, k, none⟩ (.string ⟨#[116, 121, 112, 101]⟩)).cell? ⟨gm, 7, none⟩ = some (.string th) := by rw [hth]; exact cell_setS hmk (HMC.out 7 _ (str_at eh (by omega)))
      have hBD : Below w.heap.size w (wC.setCell ⟨gm, k, none⟩ (.string ⟨#[116, 121, 112, 101]⟩)) := HBC.out.setCell (Nat.le_trans hBz hgB) _
      have HBD := Lib.hid hBD
      generalize wC.setCell ⟨gm, k, none⟩ (.string ⟨#[116, 121, 112, 101]⟩) = wD at *
      have hsz := nm_size ya yb yc yd ye yf yg yh
      have kp := fun W => parse_named _ (by omega) hbad W
      have hsp := hat.spec
      have hcut := hat.cut
      rw [nmS_lit] at kp hsp hcut hsz
      have hbs : (¬ 9223372036854775807 < 5 + ta.size) ∧ (¬ 9223372036854775807 < 5 + ta.size + 7) ∧ (¬ 9223372036854775807 < 5 + ta.size + 7 + tb.size) ∧ (¬ 9223372036854775807 < 5 + ta.size + 7 + tb.size + 3) ∧ (¬ 9223372036854775807 < 5 + ta.size + 7 + tb.size + 3 + tc.size) ∧ (¬ 9223372036854775807 < 5 + ta.size + 7 + tb.size + 3 + tc.size + 3) ∧ (¬ 9223372036854775807 < 5 + ta.size + 7 + tb.size + 3 + tc.size + 3 + td.size) ∧ (¬ 9223372036854775807 < 5 + ta.size + 7 + tb.size + 3 + tc.size + 3 + td.size + 3) ∧ (¬ 9223372036854775807 < 5 + ta.size + 7 + tb.size + 3 + tc.size + 3 + td.size + 3 + te.size) ∧ (¬ 9223372036854775807 < 5 + ta.size + 7 + tb.size + 3 + tc.size + 3 + td.size + 3 + te.size + 5) ∧ (¬ 9223372036854775807 < 5 + ta.size + 7 + tb.size + 3 + tc.size + 3 + td.size + 3 + te.size + 5 + tf.size) ∧ (¬ 9223372036854775807 < 5 + ta.size + 7 + tb.size + 3 + tc.size + 3 + td.size + 3 + te.size + 5 + tf.size + 3) ∧ (¬ 9223372036854775807 < 5 + ta.size + 7 + tb.size + 3 + tc.size + 3 + td.size + 3 + te.size + 5 + tf.size + 3 + tg.size) ∧ (¬ 9223372036854775807 < 5 + ta.size + 7 + tb.size + 3 + tc.size + 3 + td.size + 3 + te.size + 5 + tf.size + 3 + tg.size + 4) ∧ (¬ 9223372036854775807 < 5 + ta.size + 7 + tb.size + 3 + tc.size + 3 + td.size + 3 + te.size + 5 + tf.size + 3 + tg.size + 4 + th.size) ∧ (¬ 9223372036854775807 < 5 + ta.size + 7 + tb.size + 3 + tc.size + 3 + td.size + 3 + te.size + 5 + tf.size + 3 + tg.size + 4 + th.size + 4) := by clear kp hsp HBD hat hcut hbad hsz; refine ⟨?_, ?_, ?_, ?_, ?_, ?_, ?_, ?_, ?_, ?_, ?_, ?_, ?_, ?_, ?_, ?_⟩ <;> omega
      obtain ⟨b0, b1, b2, b3, b4, b5, b6, b7, b8, b9, b10, b11, b12, b13, b14, b15⟩ := hbs
      have HK2 := Lib.hid kp
      have HSP := Lib.hid hsp
      have HCU := Lib.hid hcut
      have HSZ := Lib.hid hsz
      clear kp hsp hcut hsz hat hbad hBD fa fb fc fd fe ff fg fh ea eb ec ed ee ef eg eh za zb zc zd ze zf zg zh ya yb yc yd ye yf yg yh hta htb htc htd hte htf htg hth ca cb cc cd ce cf cg ch hmk hmf HMC HF HE HZ HS HR HK hsk
      clear hz0 hz1 hz2 hi0 hlt
      go_cut [14] from 208 to 247 (fun sx wc => sx = .string (⟨#[116, 121, 112, 101, 32]⟩ ++ ta ++ ⟨#[32, 123, 32, 114, 101, 108, 32]⟩ ++ tb ++ ⟨#[32, 40, 32]⟩ ++ tc ++ ⟨#[32, 44, 32]⟩ ++ td ++ ⟨#[32, 44, 32]⟩ ++ te ++ ⟨#[32, 41, 32, 58, 32]⟩ ++ tf ++ ⟨#[32, 35, 32]⟩ ++ tg ++ ⟨#[32, 105, 115, 32]⟩ ++ th ++ ⟨#[32, 59, 32, 125]⟩) ∧ ∃ nq, wc = wD.drewN nq)
      case first =>
        as_aux_lemma =>
          go_quiet (fail)
          go_wp2
          go_meet
          exact ⟨rfl, nq, rfl⟩
      case rest =>
      obtain ⟨rfl, nq, rfl⟩ := hcut
      have kp := HK2.out
      obtain ⟨hp5, hp4, _⟩ := HSP.out
      have hcut := HCU.out
      have hsz := HSZ.out
      clear HK2 HSP HCU HSZ b0 b1 b2 b3 b4 b5 b6 b7 b8 b9 b10 b11 b12 b13 b14 b15 ua ub uc ud ue uf ug uh
      generalize ⟨#[116, 121, 112, 101, 32]⟩ ++ ta ++ ⟨#[32, 123, 32, 114, 101, 108, 32]⟩ ++ tb ++ ⟨#[32, 40, 32]⟩ ++ tc ++ ⟨#[32, 44, 32]⟩ ++ td ++ ⟨#[32, 44, 32]⟩ ++ te ++ ⟨#[32, 41, 32, 58, 32]⟩ ++ tf ++ ⟨#[32, 35, 32]⟩ ++ tg ++ ⟨#[32, 105, 115, 32]⟩ ++ th ++ ⟨#[32, 59, 32, 125]⟩ = S at *
      replace hp4 : p + 4 ≤ S.size := hp4
      replace hcut : S.extract p (p + 4) = ⟨#[116, 121, 112, 101]⟩ := hcut
      have hq4 : (p : Int) + 4 ≤ (S.size : Nat) := by omega
      have hq5 : (0 : Int) < (p : Nat) := by omega
      have hq6 : (p : Int) ≤ 900 := by omega
      have hq7 : (S.size : Int) ≤ 900 := by omega
      have hBD2 : Below w.heap.size w (wD.drewN nq) := HBD.out.trans ⟨rfl, rfl, rfl, Nat.le_refl _, fun _ _ => rfl⟩
      generalize wD.drewN nq = wE at *
      go_wp2_with ((with_reducible refine (kp _).mono ?_); rintro e wF ⟨⟨AF, cF, rfl, hvF⟩, hbF⟩)
      all_goals (
        go_ret
        refine ⟨?_, (hBD2.trans (hbF.mono hBD2.size)).alloc (Nat.le_trans hBD2.size hbF.size) _⟩
        first | rfl | (simp [*]; omega))
theorem parseNames_walk (A0 : Option Addr) (n0 c0 : Nat) (s0 : List ByteArray) (x1 : Int) (w : World) (r0 : Rd w w.heap.size 1 A0 n0 c0 (s0.map Value.string)) (_f0 : ∀ s ∈ s0, s.size ≤ maxLen) (f1 : (Lit.int .u8 x1).wf = true) :
    Calls Try.prog 7 #[.slice A0 n0 c0, .int .u8 x1] w fun e w' => e = .returned (.bool true) ∧ Below w.heap.size w w' := by
  have h := wf_u8 f1
  obtain ⟨n, rfl⟩ : ∃ n : Nat, x1 = n := ⟨x1.toNat, by omega⟩
  exact parseNames_core A0 n0 c0 s0 n w r0 (by omega)
end Go.Proofs.Ytdndncodpepdfaa
