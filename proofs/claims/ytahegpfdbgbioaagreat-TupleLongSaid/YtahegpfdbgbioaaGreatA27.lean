import Derived.Test.YtahegpfdbgbioaaGreatA26
set_option maxRecDepth 100000
set_option maxHeartbeats 4000000
namespace Go.Proofs.YtahegpfdbgbioaaGreat
open Go.RowKit
def TR12 : List TypP := [⟨⟨#[117, 115, 101, 114]⟩, []⟩, ⟨⟨#[100, 111, 99]⟩, [⟨⟨#[114, 101, 97, 100]⟩, ⟨#[114, 101, 97, 100]⟩, ⟨#[114, 101, 97, 100]⟩, ⟨#[114, 101, 97, 100]⟩, [(⟨#[117, 115, 101, 114]⟩, ⟨#[]⟩)], [(1, ⟨#[]⟩, ⟨#[]⟩)]⟩]⟩]
theorem exR_says : parseS ⟨#[116, 121, 112, 101, 32, 117, 115, 101, 114, 32, 123, 125, 32, 116, 121, 112, 101, 32, 100, 111, 99, 32, 123, 32, 114, 101, 108, 32, 114, 101, 97, 100, 32, 40, 114, 101, 97, 100, 44, 32, 114, 101, 97, 100, 44, 32, 114, 101, 97, 100, 41, 58, 32, 117, 115, 101, 114, 59, 32, 125]⟩ = (TR12, 0, 0) := by decide +kernel
theorem exR_edges : edgesP (TR12.map typI) = [] := by decide +kernel
theorem exR_right : (checkE (TR12.map typI)).1 = 0 := by decide +kernel
theorem exR_sol : Sol 1 (edgesP (TR12.map typI)) (fun _ => 0) := by
 rw [exR_edges]
 exact ⟨fun i _ => by dsimp only; omega, fun e he => by cases he⟩
theorem exR_size : ¬ 2048 < (showS TR12).size := by decide +kernel
theorem exR_rels (v : List Int) : relsTT (TR12.map typI) v = [relT11 (pathsOf (TR12.map typI)) (lvAt v 0) ((relsOf (TR12.map typI)).getD 0 (⟨⟨#[]⟩, []⟩, ⟨⟨#[]⟩, ⟨#[]⟩, ⟨#[]⟩, ⟨#[]⟩, [], []⟩))] := rfl
theorem exR_subs (lv : Int) : (relT11 (pathsOf (TR12.map typI)) lv ((relsOf (TR12.map typI)).getD 0 (⟨⟨#[]⟩, []⟩, ⟨⟨#[]⟩, ⟨#[]⟩, ⟨#[]⟩, ⟨#[]⟩, [], []⟩))).subs = [(⟨#[117, 115, 101, 114]⟩, ⟨#[]⟩)] := by kernel_rfl
theorem compR {err : Nat} {tx : ByteArray} {ty : List ByteArray} {ps : List Path} {Q : List RelT} (h : CompIs ⟨#[116, 121, 112, 101, 32, 117, 115, 101, 114, 32, 123, 125, 32, 116, 121, 112, 101, 32, 100, 111, 99, 32, 123, 32, 114, 101, 108, 32, 114, 101, 97, 100, 32, 40, 114, 101, 97, 100, 44, 32, 114, 101, 97, 100, 44, 32, 114, 101, 97, 100, 41, 58, 32, 117, 115, 101, 114, 59, 32, 125]⟩ err tx ty ps Q) : err = 0 ∧ ty = [⟨#[117, 115, 101, 114]⟩, ⟨#[100, 111, 99]⟩] ∧ ps = [(⟨#[100, 111, 99]⟩, ⟨#[114, 101, 97, 100]⟩)] ∧ ∃ r, Q = [r] ∧ r.subs = [(⟨#[117, 115, 101, 114]⟩, ⟨#[]⟩)] := by
 have e1 : (parseS ⟨#[116, 121, 112, 101, 32, 117, 115, 101, 114, 32, 123, 125, 32, 116, 121, 112, 101, 32, 100, 111, 99, 32, 123, 32, 114, 101, 108, 32, 114, 101, 97, 100, 32, 40, 114, 101, 97, 100, 44, 32, 114, 101, 97, 100, 44, 32, 114, 101, 97, 100, 41, 58, 32, 117, 115, 101, 114, 59, 32, 125]⟩).1 = TR12 := by rw [exR_says]
 have e2 : (parseS ⟨#[116, 121, 112, 101, 32, 117, 115, 101, 114, 32, 123, 125, 32, 116, 121, 112, 101, 32, 100, 111, 99, 32, 123, 32, 114, 101, 108, 32, 114, 101, 97, 100, 32, 40, 114, 101, 97, 100, 44, 32, 114, 101, 97, 100, 44, 32, 114, 101, 97, 100, 41, 58, 32, 117, 115, 101, 114, 59, 32, 125]⟩).2.1 = 0 := by rw [exR_says]
 have nc : ¬ Cyc (edgesP (TR12.map typI)) := fun hc => Cyc.none hc exR_sol
 cases h with
 | parse e h h0 => exact absurd (h.symm.trans e2) h0
 | check e h1 h h0 => rw [e1] at h; exact absurd (h.symm.trans exR_right) h0
 | cyc h1 hR hc => rw [e1] at hc; exact absurd hc nc
 | long h1 hR hc hz => rw [e1] at hz; exact absurd hz exR_size
 | ok h1 hR v hv hi hL hz =>
  rw [e1]
  refine ⟨rfl, rfl, by decide +kernel, _, exR_rels v, exR_subs _⟩
theorem exT_is : parseT ⟨#[100, 111, 99, 58, 49, 35, 114, 101, 97, 100, 64, 103, 114, 111, 117, 112, 58, 97, 35, 109, 101, 109, 98, 101, 114]⟩ = some ((⟨#[100, 111, 99]⟩, ⟨#[49]⟩, ⟨#[114, 101, 97, 100]⟩), (⟨#[103, 114, 111, 117, 112]⟩, ⟨#[97]⟩, ⟨#[109, 101, 109, 98, 101, 114]⟩)) := by decide +kernel
theorem exB_is : parseT ⟨#[100, 111, 99, 58, 49, 64, 103, 114, 111, 117, 112, 58, 97]⟩ = none := by decide +kernel
theorem exN_is : readN ⟨#[117, 115, 101, 114, 58, 97]⟩ = some (⟨#[117, 115, 101, 114]⟩, ⟨#[97]⟩, ⟨#[]⟩) := by decide +kernel
theorem exK_is : keyT ((⟨#[100, 111, 99]⟩, ⟨#[49]⟩, ⟨#[114, 101, 97, 100]⟩), (⟨#[103, 114, 111, 117, 112]⟩, ⟨#[97]⟩, ⟨#[109, 101, 109, 98, 101, 114]⟩)) = ⟨#[100, 111, 99, 0, 49, 0, 114, 101, 97, 100, 0, 103, 114, 111, 117, 112, 0, 97, 0, 109, 101, 109, 98, 101, 114]⟩ := by decide +kernel
theorem exF_is : fromT ⟨#[100, 111, 99, 0, 49, 0, 114, 101, 97, 100, 0, 103, 114, 111, 117, 112, 0, 97, 0, 109, 101, 109, 98, 101, 114]⟩ = some ((⟨#[100, 111, 99]⟩, ⟨#[49]⟩, ⟨#[114, 101, 97, 100]⟩), (⟨#[103, 114, 111, 117, 112]⟩, ⟨#[97]⟩, ⟨#[109, 101, 109, 98, 101, 114]⟩)) := by decide +kernel
theorem exX_is : textT ((⟨#[100, 111, 99]⟩, ⟨#[49]⟩, ⟨#[114, 101, 97, 100]⟩), (⟨#[103, 114, 111, 117, 112]⟩, ⟨#[97]⟩, ⟨#[109, 101, 109, 98, 101, 114]⟩)) = ⟨#[100, 111, 99, 58, 49, 35, 114, 101, 97, 100, 64, 103, 114, 111, 117, 112, 58, 97, 35, 109, 101, 109, 98, 101, 114]⟩ := by decide +kernel
theorem exR_yes {K : List TabR} {r : RelT} (h : K.map (·.r) = [r]) (hs : r.subs = [(⟨#[117, 115, 101, 114]⟩, ⟨#[]⟩)]) : rightT [⟨#[117, 115, 101, 114]⟩, ⟨#[100, 111, 99]⟩] [(⟨#[100, 111, 99]⟩, ⟨#[114, 101, 97, 100]⟩)] K ((⟨#[100, 111, 99]⟩, ⟨#[49]⟩, ⟨#[114, 101, 97, 100]⟩), (⟨#[117, 115, 101, 114]⟩, ⟨#[97]⟩, ⟨#[]⟩)) = 0 := by
 unfold rightT
 rw [if_pos ⟨by decide +kernel, by decide +kernel, by decide +kernel⟩]
 have hm : mayT K [(⟨#[100, 111, 99]⟩, ⟨#[114, 101, 97, 100]⟩)] ((⟨#[100, 111, 99]⟩, ⟨#[49]⟩, ⟨#[114, 101, 97, 100]⟩), (⟨#[117, 115, 101, 114]⟩, ⟨#[97]⟩, ⟨#[]⟩)) = true := by
  unfold mayT
  match K, h with
  | [k], h =>
   have hk : k.r = r := by simpa using h
   rw [show ixP [((⟨#[100, 111, 99]⟩ : ByteArray), (⟨#[114, 101, 97, 100]⟩ : ByteArray))] (⟨#[100, 111, 99]⟩, ⟨#[114, 101, 97, 100]⟩) = 0 from by decide +kernel, atK_in (i := 0) rfl, hk, hs]
   decide +kernel
 rw [if_pos hm]
theorem exR_no {K : List TabR} : rightT [⟨#[117, 115, 101, 114]⟩, ⟨#[100, 111, 99]⟩] [(⟨#[100, 111, 99]⟩, ⟨#[114, 101, 97, 100]⟩)] K ((⟨#[100, 111, 99]⟩, ⟨#[49]⟩, ⟨#[114, 101, 97, 100]⟩), (⟨#[103, 114, 111, 117, 112]⟩, ⟨#[97]⟩, ⟨#[109, 101, 109, 98, 101, 114]⟩)) = 31 := by
 unfold rightT
 rw [if_neg fun h => absurd h.2.2 (by decide +kernel)]
theorem awake12_any (w : World) : Calls Tryz.prog 28 #[] w fun e w' => e = .returned (.bool true) ∧ Below w.heap.size w w' := by
 have kT : ∀ W : World, Calls Tryz.prog 32 #[.string ⟨#[100, 111, 99, 58, 49, 35, 114, 101, 97, 100, 64, 103, 114, 111, 117, 112, 58, 97, 35, 109, 101, 109, 98, 101, 114]⟩] W fun e w' => e = .returned (.tuple #[.agg #[.string ⟨#[100, 111, 99]⟩, .string ⟨#[49]⟩, .string ⟨#[114, 101, 97, 100]⟩, .string ⟨#[103, 114, 111, 117, 112]⟩, .string ⟨#[97]⟩, .string ⟨#[109, 101, 109, 98, 101, 114]⟩], .int .i64 0]) ∧ Below W.heap.size W w' := fun W => by
  have k := parse_any12 (w := W) ⟨#[100, 111, 99, 58, 49, 35, 114, 101, 97, 100, 64, 103, 114, 111, 117, 112, 58, 97, 35, 109, 101, 109, 98, 101, 114]⟩ (by decide)
  rw [exT_is] at k
  exact k
 have kB : ∀ W : World, Calls Tryz.prog 32 #[.string ⟨#[100, 111, 99, 58, 49, 64, 103, 114, 111, 117, 112, 58, 97]⟩] W fun e w' => e = .returned (.tuple #[.agg #[.string ⟨#[]⟩, .string ⟨#[]⟩, .string ⟨#[]⟩, .string ⟨#[]⟩, .string ⟨#[]⟩, .string ⟨#[]⟩], .int .i64 11]) ∧ Below W.heap.size W w' := fun W => by
  have k := parse_any12 (w := W) ⟨#[100, 111, 99, 58, 49, 64, 103, 114, 111, 117, 112, 58, 97]⟩ (by decide)
  rw [exB_is] at k
  exact k
 have kN : ∀ W : World, Calls Tryz.prog 30 #[.string ⟨#[117, 115, 101, 114, 58, 97]⟩] W fun e w' => e = .returned (.tuple #[.agg #[.string ⟨#[117, 115, 101, 114]⟩, .string ⟨#[97]⟩, .string ⟨#[]⟩], .int .i64 0]) ∧ Below W.heap.size W w' := fun W => read_some12 exN_is (by decide) W
 have kK : ∀ W : World, Calls Tryz.prog 40 #[.agg #[.string ⟨#[100, 111, 99]⟩, .string ⟨#[49]⟩, .string ⟨#[114, 101, 97, 100]⟩, .string ⟨#[103, 114, 111, 117, 112]⟩, .string ⟨#[97]⟩, .string ⟨#[109, 101, 109, 98, 101, 114]⟩]] W fun e w' => e = .returned (.string ⟨#[100, 111, 99, 0, 49, 0, 114, 101, 97, 100, 0, 103, 114, 111, 117, 112, 0, 97, 0, 109, 101, 109, 98, 101, 114]⟩) ∧ Below W.heap.size W w' := fun W => by
  have k := key_any12 (w := W) ⟨#[100, 111, 99]⟩ ⟨#[49]⟩ ⟨#[114, 101, 97, 100]⟩ ⟨#[103, 114, 111, 117, 112]⟩ ⟨#[97]⟩ ⟨#[109, 101, 109, 98, 101, 114]⟩ (by decide) (by decide) (by decide) (by decide) (by decide) (by decide)
  rw [exK_is] at k
  exact k
 have kF : ∀ W : World, Calls Tryz.prog 34 #[.string ⟨#[100, 111, 99, 0, 49, 0, 114, 101, 97, 100, 0, 103, 114, 111, 117, 112, 0, 97, 0, 109, 101, 109, 98, 101, 114]⟩] W fun e w' => e = .returned (.tuple #[.agg #[.string ⟨#[100, 111, 99]⟩, .string ⟨#[49]⟩, .string ⟨#[114, 101, 97, 100]⟩, .string ⟨#[103, 114, 111, 117, 112]⟩, .string ⟨#[97]⟩, .string ⟨#[109, 101, 109, 98, 101, 114]⟩], .bool true]) ∧ Below W.heap.size W w' := fun W => by
  have k := from_any12 (w := W) ⟨#[100, 111, 99, 0, 49, 0, 114, 101, 97, 100, 0, 103, 114, 111, 117, 112, 0, 97, 0, 109, 101, 109, 98, 101, 114]⟩ (by decide)
  rw [exF_is] at k
  exact k
 have kX : ∀ W : World, Calls Tryz.prog 38 #[.agg #[.string ⟨#[100, 111, 99]⟩, .string ⟨#[49]⟩, .string ⟨#[114, 101, 97, 100]⟩, .string ⟨#[103, 114, 111, 117, 112]⟩, .string ⟨#[97]⟩, .string ⟨#[109, 101, 109, 98, 101, 114]⟩]] W fun e w' => e = .returned (.string ⟨#[100, 111, 99, 58, 49, 35, 114, 101, 97, 100, 64, 103, 114, 111, 117, 112, 58, 97, 35, 109, 101, 109, 98, 101, 114]⟩) ∧ Below W.heap.size W w' := fun W => by
  have k := text_any12 (w := W) ⟨#[100, 111, 99]⟩ ⟨#[49]⟩ ⟨#[114, 101, 97, 100]⟩ ⟨#[103, 114, 111, 117, 112]⟩ ⟨#[97]⟩ ⟨#[109, 101, 109, 98, 101, 114]⟩ (by decide) (by decide) (by decide) (by decide) (by decide) (by decide)
  rw [exX_is] at k
  exact k
 have kO : ∀ W : World, Calls Tryz.prog 43 #[.agg #[.string ⟨#[100, 111, 99]⟩, .string ⟨#[49]⟩, .string ⟨#[114, 101, 97, 100]⟩, .string ⟨#[103, 114, 111, 117, 112]⟩, .string ⟨#[97]⟩, .string ⟨#[109, 101, 109, 98, 101, 114]⟩], .agg #[.string ⟨#[100, 111, 99]⟩, .string ⟨#[49]⟩, .string ⟨#[114, 101, 97, 100]⟩, .string ⟨#[103, 114, 111, 117, 112]⟩, .string ⟨#[97]⟩, .string ⟨#[109, 101, 109, 98, 101, 114]⟩]] W fun e w' => e = .returned (.int .i64 0) ∧ Below W.heap.size W w' := fun W => by
  have k := cmp_any12 (w := W) ⟨#[100, 111, 99]⟩ ⟨#[49]⟩ ⟨#[114, 101, 97, 100]⟩ ⟨#[103, 114, 111, 117, 112]⟩ ⟨#[97]⟩ ⟨#[109, 101, 109, 98, 101, 114]⟩ ⟨#[100, 111, 99]⟩ ⟨#[49]⟩ ⟨#[114, 101, 97, 100]⟩ ⟨#[103, 114, 111, 117, 112]⟩ ⟨#[97]⟩ ⟨#[109, 101, 109, 98, 101, 114]⟩
  rw [cmpT_zero.2 rfl] at k
  exact k
 have kC : ∀ W : World, Calls Tryz.prog 11 #[.string ⟨#[116, 121, 112, 101, 32, 117, 115, 101, 114, 32, 123, 125, 32, 116, 121, 112, 101, 32, 100, 111, 99, 32, 123, 32, 114, 101, 108, 32, 114, 101, 97, 100, 32, 40, 114, 101, 97, 100, 44, 32, 114, 101, 97, 100, 44, 32, 114, 101, 97, 100, 41, 58, 32, 117, 115, 101, 114, 59, 32, 125]⟩] W fun e w' => (∃ tx Ay cy mb Ar cr K, e = .returned (.tuple #[.agg #[.string tx, .slice Ay 2 cy, .map mb, .slice Ar 1 cr], .int .i64 0]) ∧ TabA w' Ay cy [⟨#[117, 115, 101, 114]⟩, ⟨#[100, 111, 99]⟩] mb [(⟨#[100, 111, 99]⟩, ⟨#[114, 101, 97, 100]⟩)] Ar cr K ∧ K.length = 1 ∧ ∃ r, K.map (·.r) = [r] ∧ r.subs = [(⟨#[117, 115, 101, 114]⟩, ⟨#[]⟩)]) ∧ Below W.heap.size W w' := fun W => by
  refine (compile_any ⟨#[116, 121, 112, 101, 32, 117, 115, 101, 114, 32, 123, 125, 32, 116, 121, 112, 101, 32, 100, 111, 99, 32, 123, 32, 114, 101, 108, 32, 114, 101, 97, 100, 32, 40, 114, 101, 97, 100, 44, 32, 114, 101, 97, 100, 44, 32, 114, 101, 97, 100, 41, 58, 32, 117, 115, 101, 114, 59, 32, 125]⟩ (by decide) W).mono fun e w' ⟨⟨tx, Ay, cy, ty, mb, ps, Ar, cr, K, err, he, hT, hC⟩, hb⟩ => ?_
  obtain ⟨rfl, rfl, rfl, r, h4, h5⟩ := compR hC
  have hl : K.length = 1 := by have := congrArg List.length h4; rwa [List.length_map] at this
  rw [hl] at he
  exact ⟨⟨tx, Ay, cy, mb, Ar, cr, K, he, hT, hl, r, h4, h5⟩, hb⟩
 go_enter Tryz.func28, Tryz.ntmps28
 go_upto_region 2 with (go_at_call 32; refine (kT _).mono ?_; rintro e w1 ⟨rfl, hb⟩)
 have d1 := Bk.new w1 #[.string ⟨#[100, 111, 99]⟩, .string ⟨#[49]⟩, .string ⟨#[114, 101, 97, 100]⟩, .string ⟨#[103, 114, 111, 117, 112]⟩, .string ⟨#[97]⟩, .string ⟨#[109, 101, 109, 98, 101, 114]⟩] 71
 replace hb := hb.alloc hb.size (.cells #[.string ⟨#[100, 111, 99]⟩, .string ⟨#[49]⟩, .string ⟨#[114, 101, 97, 100]⟩, .string ⟨#[103, 114, 111, 117, 112]⟩, .string ⟨#[97]⟩, .string ⟨#[109, 101, 109, 98, 101, 114]⟩] 71)
 generalize w1.alloc (.cells #[.string ⟨#[100, 111, 99]⟩, .string ⟨#[49]⟩, .string ⟨#[114, 101, 97, 100]⟩, .string ⟨#[103, 114, 111, 117, 112]⟩, .string ⟨#[97]⟩, .string ⟨#[109, 101, 109, 98, 101, 114]⟩] 71) = w2 at *
 generalize w1.heap.size = g1 at *
 obtain ⟨a0, a1, a2, a3, a4, a5⟩ := d1.c6
 have al := d1.lt
 go_upto_region 3 with (first | (go_at_call 40; refine (kK _).mono ?_; rintro e w3 ⟨rfl, hb3⟩) | (go_at_call 34; refine (kF _).mono ?_; rintro e w4 ⟨rfl, hb4⟩))
 replace d1 := (d1.below hb3).below hb4
 replace hb := bthen (bthen hb hb.size hb3) (bthen hb hb.size hb3).size hb4
 have d2 := Bk.new w4 #[.string ⟨#[100, 111, 99]⟩, .string ⟨#[49]⟩, .string ⟨#[114, 101, 97, 100]⟩, .string ⟨#[103, 114, 111, 117, 112]⟩, .string ⟨#[97]⟩, .string ⟨#[109, 101, 109, 98, 101, 114]⟩] 71
 replace d1 := d1.alloc (.cells #[.string ⟨#[100, 111, 99]⟩, .string ⟨#[49]⟩, .string ⟨#[114, 101, 97, 100]⟩, .string ⟨#[103, 114, 111, 117, 112]⟩, .string ⟨#[97]⟩, .string ⟨#[109, 101, 109, 98, 101, 114]⟩] 71)
 replace hb := hb.alloc hb.size (.cells #[.string ⟨#[100, 111, 99]⟩, .string ⟨#[49]⟩, .string ⟨#[114, 101, 97, 100]⟩, .string ⟨#[103, 114, 111, 117, 112]⟩, .string ⟨#[97]⟩, .string ⟨#[109, 101, 109, 98, 101, 114]⟩] 71)
 clear hb3 hb4 a0 a1 a2 a3 a4 a5 al
 generalize w4.alloc (.cells #[.string ⟨#[100, 111, 99]⟩, .string ⟨#[49]⟩, .string ⟨#[114, 101, 97, 100]⟩, .string ⟨#[103, 114, 111, 117, 112]⟩, .string ⟨#[97]⟩, .string ⟨#[109, 101, 109, 98, 101, 114]⟩] 71) = w5 at *
 generalize w4.heap.size = g2 at *
 go_upto_region 4 with (go_at_call 32; refine (kB _).mono ?_; rintro e w6 ⟨rfl, hb3⟩)
 replace hb3 := hb3.alloc hb3.size (.cells #[.string ⟨#[]⟩, .string ⟨#[]⟩, .string ⟨#[]⟩, .string ⟨#[]⟩, .string ⟨#[]⟩, .string ⟨#[]⟩] 71)
 replace d1 := d1.below hb3
 replace d2 := d2.below hb3
 replace hb := bthen hb hb.size hb3
 clear hb3
 generalize w6.alloc (.cells #[.string ⟨#[]⟩, .string ⟨#[]⟩, .string ⟨#[]⟩, .string ⟨#[]⟩, .string ⟨#[]⟩, .string ⟨#[]⟩] 71) = w7 at *
 generalize w6.heap.size = g3 at *
 go_upto_region 5 with (go_at_call 30; refine (kN _).mono ?_; rintro e w8 ⟨rfl, hb3⟩)
 have d3 := Bk.new w8 #[.string ⟨#[117, 115, 101, 114]⟩, .string ⟨#[97]⟩, .string ⟨#[]⟩] 69
 replace hb3 := hb3.alloc hb3.size (.cells #[.string ⟨#[117, 115, 101, 114]⟩, .string ⟨#[97]⟩, .string ⟨#[]⟩] 69)
 replace d1 := d1.below hb3
 replace d2 := d2.below hb3
 replace hb := bthen hb hb.size hb3
 clear hb3
 generalize w8.alloc (.cells #[.string ⟨#[117, 115, 101, 114]⟩, .string ⟨#[97]⟩, .string ⟨#[]⟩] 69) = w9 at *
 generalize w8.heap.size = g4 at *
 go_upto_region 6 with (go_at_call 11; refine (kC _).mono ?_; rintro e w10 ⟨⟨tx, Ay, cy, mb, Ar, cr, K, rfl, hT, hKl, r, hK, hr⟩, hb3⟩)
 have d4 := Bk.new w10 #[.string tx, .slice Ay 2 cy, .map mb, .slice Ar 1 cr] 27
 have hn := bnew w10 (.cells #[.string tx, .slice Ay 2 cy, .map mb, .slice Ar 1 cr] 27)
 replace hT := hT.up hn
 replace hb3 := hb3.alloc hb3.size (.cells #[.string tx, .slice Ay 2 cy, .map mb, .slice Ar 1 cr] 27)
 replace d1 := d1.below hb3
 replace d2 := d2.below hb3
 replace d3 := d3.below hb3
 replace hb := bthen hb hb.size hb3
 clear hb3 hn
 generalize w10.alloc (.cells #[.string tx, .slice Ay 2 cy, .map mb, .slice Ar 1 cr] 27) = w11 at *
 generalize w10.heap.size = g5 at *
 have kR := right_any12 (tx := tx) hT (by decide) ⟨#[100, 111, 99]⟩ ⟨#[49]⟩ ⟨#[114, 101, 97, 100]⟩ ⟨#[117, 115, 101, 114]⟩ ⟨#[97]⟩ ⟨#[]⟩ (by decide) (by decide) (by decide) (by decide) (by decide) (by decide)
 rw [exR_yes hK hr, hKl] at kR
 obtain ⟨c0, c1, c2, c3⟩ := d4.c4
 have cl := d4.lt
 obtain ⟨n0, n1, n2⟩ := d3.c3
 have nl := d3.lt
 go_upto_region 7 with (go_at_call 45; refine kR.mono ?_; rintro e w12 ⟨rfl, hb3⟩)
 replace d1 := d1.below hb3
 replace d2 := d2.below hb3
 replace d3 := d3.below hb3
 replace d4 := d4.below hb3
 replace hT := hT.up hb3
 replace hb := bthen hb hb.size hb3
 clear hb3 kR c0 c1 c2 c3 cl n0 n1 n2 nl
 obtain ⟨c0, c1, c2, c3⟩ := d4.c4
 have cl := d4.lt
 obtain ⟨n0, n1, n2⟩ := d3.c3
 have nl := d3.lt
 obtain ⟨a0, a1, a2, a3, a4, a5⟩ := d1.c6
 have al := d1.lt
 obtain ⟨b0, b1, b2, b3, b4, b5⟩ := d2.c6
 have bl := d2.lt
 have kR := right_any12 (tx := tx) hT (by decide) ⟨#[100, 111, 99]⟩ ⟨#[49]⟩ ⟨#[114, 101, 97, 100]⟩ ⟨#[103, 114, 111, 117, 112]⟩ ⟨#[97]⟩ ⟨#[109, 101, 109, 98, 101, 114]⟩ (by decide) (by decide) (by decide) (by decide) (by decide) (by decide)
 rw [exR_no, hKl] at kR
 go_wp2_with (first
  | (go_at_call 45; refine kR.mono ?_; rintro e w13 ⟨rfl, hb3⟩; have d1' := d1.below hb3; obtain ⟨e0, e1, e2, e3, e4, e5⟩ := d1'.c6; have el := d1'.lt; have hb' := bthen hb hb.size hb3)
  | (go_at_call 43; refine (kO _).mono ?_; rintro e w14 ⟨rfl, hb4⟩; have d1'' := d1'.below hb4; obtain ⟨f0, f1, f2, f3, f4, f5⟩ := d1''.c6; have fl := d1''.lt; have hb'' := bthen hb' hb'.size hb4)
  | (go_at_call 38; refine (kX _).mono ?_; rintro e w15 ⟨rfl, hb5⟩))
 go_ret
 exact ⟨rfl, bthen hb'' hb''.size hb5⟩
end Go.Proofs.YtahegpfdbgbioaaGreat
namespace Go.Proofs.YtahegpfdbgbioaaGreat
open Go.ChangeShapes Go.WideShapes Go.ChangeAt Go.RowKit
section
variable {H : Type} {enc : TypeId × Value → H} {W : World} {base : Nat} {spare : Nat → Bool} {held : Bool}
theorem trod_node {fuel : Nat} {cs : List Value} {y : DataW H × List MemPlace} (h : DataW.trod enc Tryz.prog W base spare held fuel 69 cs = some y) :
 ∃ a b c : ByteArray, cs = [.string a, .string b, .string c] ∧ a.size ≤ maxLen ∧ b.size ≤ maxLen ∧ c.size ≤ maxLen := by
 obtain ⟨ys, n', _, rfl, hl, hyl, hg⟩ := DataW.trod_struct Tryz.underlying69 h
 rw [show Tryz.prog.cellsOf 69 = 3 by kernel_rfl] at hl
 have h1 : Tryz.prog.cellsOf 9 = 1 := by kernel_rfl
 match cs, hl, ys, hyl with
 | [u0, u1, u2], _, [y0, y1, y2], _ =>
  have g0 : DataW.trod enc Tryz.prog W base spare held n' 9 (([u0, u1, u2].drop 0).take (Tryz.prog.cellsOf 9)) = some y0 := hg 0 _ rfl
  have g1 : DataW.trod enc Tryz.prog W base spare held n' 9 (([u0, u1, u2].drop 1).take (Tryz.prog.cellsOf 9)) = some y1 := hg 1 _ rfl
  have g2 : DataW.trod enc Tryz.prog W base spare held n' 9 (([u0, u1, u2].drop 2).take (Tryz.prog.cellsOf 9)) = some y2 := hg 2 _ rfl
  rw [h1] at g0 g1 g2
  obtain ⟨a, q0, _, b0⟩ := DataW.trod_string Tryz.underlying9 (x := y0) (by simpa using g0)
  obtain ⟨b, q1, _, b1⟩ := DataW.trod_string Tryz.underlying9 (x := y1) (by simpa using g1)
  obtain ⟨c, q2, _, b2⟩ := DataW.trod_string Tryz.underlying9 (x := y2) (by simpa using g2)
  simp at q0 q1 q2
  subst q0 q1 q2
  exact ⟨a, b, c, rfl, b0, b1, b2⟩
theorem rd_nodeIn {v : Value} {d : DataW H} {p : List MemPlace} {r : Go.Reach} {b0 : Nat} (hv : Value.okWide Tryz.prog W r b0 69 v) (h : DataW.Trod enc Tryz.prog W base spare held 69 v d p) :
 ∃ a b c : ByteArray, v = .agg #[.string a, .string b, .string c] ∧ a.size ≤ maxLen ∧ b.size ≤ maxLen ∧ c.size ≤ maxLen := by
 obtain ⟨cs, rfl, _⟩ := okWide_struct Tryz.underlying69 hv
 obtain ⟨fuel, hf⟩ := h
 obtain ⟨a, b, c, he, h1⟩ := trod_node (by simpa [Value.cells] using hf)
 exact ⟨a, b, c, by rw [← Array.toArray_toList (xs := cs), he], h1⟩
theorem rd_tupleIn {v : Value} {d : DataW H} {p : List MemPlace} {r : Go.Reach} {b0 : Nat} (hv : Value.okWide Tryz.prog W r b0 71 v) (h : DataW.Trod enc Tryz.prog W base spare held 71 v d p) :
 ∃ a b c x y z : ByteArray, v = .agg #[.string a, .string b, .string c, .string x, .string y, .string z] ∧ a.size ≤ maxLen ∧ b.size ≤ maxLen ∧ c.size ≤ maxLen ∧ x.size ≤ maxLen ∧ y.size ≤ maxLen ∧ z.size ≤ maxLen := by
 obtain ⟨cs, rfl, _⟩ := okWide_struct Tryz.underlying71 hv
 obtain ⟨fuel, hf⟩ := h
 have hf' : DataW.trod enc Tryz.prog W base spare held fuel 71 cs.toList = some (d, p) := by simpa [Value.cells] using hf
 obtain ⟨ys, n', _, _, hl, hyl, hg⟩ := DataW.trod_struct Tryz.underlying71 hf'
 rw [show Tryz.prog.cellsOf 71 = 6 by kernel_rfl] at hl
 have h3 : Tryz.prog.cellsOf 69 = 3 := by kernel_rfl
 obtain ⟨cl⟩ := cs
 simp only at hl hg
 match cl, hl, ys, hyl with
 | [u0, u1, u2, u3, u4, u5], _, [y0, y1], _ =>
  have g0 : DataW.trod enc Tryz.prog W base spare held n' 69 (([u0, u1, u2, u3, u4, u5].drop 0).take (Tryz.prog.cellsOf 69)) = some y0 := hg 0 _ rfl
  have g1 : DataW.trod enc Tryz.prog W base spare held n' 69 (([u0, u1, u2, u3, u4, u5].drop 3).take (Tryz.prog.cellsOf 69)) = some y1 := hg 1 _ rfl
  rw [h3] at g0 g1
  obtain ⟨a, b, c, e0, a1, a2, a3⟩ := trod_node (y := y0) (by simpa using g0)
  obtain ⟨x, y, z, e1, b1, b2, b3⟩ := trod_node (y := y1) (by simpa using g1)
  simp at e0 e1
  obtain ⟨rfl, rfl, rfl⟩ := e0
  obtain ⟨rfl, rfl, rfl⟩ := e1
  exact ⟨a, b, c, x, y, z, rfl, a1, a2, a3, b1, b2, b3⟩
end
end Go.Proofs.YtahegpfdbgbioaaGreat
namespace Go.Proofs.YtahegpfdbgbioaaGreat
theorem cut_show2 {n : NdP} (a1 : NoB 35 n.1) (a2 : NoB 35 n.2.1) (b1 : NoB 58 n.1) : cutN (showN n) = n := by
 have ho : NoB 35 (objN n) := (a1.app (.one (by omega) (by omega))).app a2
 have hx : cutC (objN n) 58 = (n.1, n.2.1) := cutC_hit (by omega) b1
 unfold cutN showN
 by_cases hr : n.2.2 = ⟨#[]⟩
 · rw [if_pos hr, cutC_miss ho, hx]
   obtain ⟨x, y, z⟩ := n
   dsimp only at hr ⊢
   rw [hr]
 · rw [if_neg hr, ← ByteArray.append_assoc, cutC_hit (by omega) ho, hx]
def Plain4 (s : ByteArray) : Prop := NoB 35 s ∧ NoB 58 s ∧ NoB 64 s ∧ NoB 0 s
theorem read_show2 {n : NdP} (h1 : Plain4 n.1) (h2 : Plain4 n.2.1) : readN (showN n) = if fmdN n = true then some n else none := by
 unfold readN
 rw [cut_show2 h1.1 h2.1 h1.2.1]
 by_cases h : fmdN n = true
 · rw [if_pos h, if_pos ⟨h, rfl⟩]
 · rw [if_neg h, if_neg fun q => h q.1]
theorem show_no2 {n : NdP} (h1 : Plain4 n.1) (h2 : Plain4 n.2.1) (h3 : Plain4 n.2.2) : NoB 64 (showN n) := by
 have ho : NoB 64 (objN n) := (h1.2.2.1.app (.one (by omega) (by omega))).app h2.2.2.1
 unfold showN
 split
 · exact ho
 · exact ho.app ((NoB.one (by omega) (by omega)).app h3.2.2.1)
theorem parse_text2 {t : TuP} (h : ∀ x ∈ namesT t, Plain4 x) : parseT (textT t) = if fmdT t = true then some t else none := by
 obtain ⟨⟨a, b, c⟩, ⟨x, y, z⟩⟩ := t
 have ha := h a (by simp [namesT])
 have hb := h b (by simp [namesT])
 have hc := h c (by simp [namesT])
 have hx := h x (by simp [namesT])
 have hy := h y (by simp [namesT])
 unfold parseT
 rw [show textT ((a, b, c), (x, y, z)) = showN (a, b, c) ++ sOne 64 ++ showN (x, y, z) from rfl, cutC_hit (by omega) (show_no2 ha hb hc), read_show2 ha hb, read_show2 hx hy]
 rw [show fmdT ((a, b, c), (x, y, z)) = (!decide (c = ⟨#[]⟩) && fmdN (a, b, c) && fmdN (x, y, z)) from rfl]
 generalize fmdN (a, b, c) = p
 generalize fmdN (x, y, z) = q
 cases p with
 | false => simp
 | true =>
  cases q with
  | false => simp
  | true =>
   by_cases h3 : c = ⟨#[]⟩
   · simp [h3]
   · simp [h3]
theorem from_key2 {t : TuP} (h : ∀ x ∈ namesT t, Plain4 x) : fromT (keyT t) = if fmdT t = true then some t else none := by
 have hc : cutL 6 (keyT t) = namesT t := cut_key (namesT t) fun x hx => (h x hx).2.2.2
 unfold fromT
 rw [hc, tupL_names]
 by_cases q : fmdT t = true
 · rw [if_pos q, if_pos ⟨q, rfl⟩]
 · rw [if_neg q, if_neg fun p => q p.1]
def sE : Nat → ByteArray
 | 0 => ⟨#[]⟩
 | k + 1 => sE k ++ ⟨#[195, 169]⟩
theorem sE_size : ∀ k, (sE k).size = 2 * k
 | 0 => rfl
 | k + 1 => by
  show (sE k ++ ⟨#[195, 169]⟩).size = _
  rw [size_app, sE_size k]
  show 2 * k + 2 = _
  omega
theorem eac_valid : validS ⟨#[195, 169]⟩ = true := by decide +kernel
theorem eac_cnt : cnt ⟨#[195, 169]⟩ = 1 := by decide +kernel
theorem eac_name : nameS ⟨#[195, 169]⟩ = true := by decide +kernel
theorem nil_valid : validS ⟨#[]⟩ = true := by decide +kernel
theorem nil_cnt : cnt ⟨#[]⟩ = 0 := by decide +kernel
theorem sE_cnt : ∀ k, validS (sE k) = true ∧ cnt (sE k) = k
 | 0 => ⟨nil_valid, nil_cnt⟩
 | k + 1 => by
  obtain ⟨h1, h2⟩ := sE_cnt k
  show validS (sE k ++ ⟨#[195, 169]⟩) = true ∧ cnt (sE k ++ ⟨#[195, 169]⟩) = k + 1
  rw [valid_app h1, cnt_app h1, h2, eac_cnt, eac_valid]
  exact ⟨rfl, rfl⟩
theorem sE_name : ∀ k, nameS (sE k) = decide (0 < k ∧ k ≤ 24)
 | 0 => by decide +kernel
 | 1 => by decide +kernel
 | k + 2 => by
  have ih := sE_name (k + 1)
  by_cases h : k + 1 ≤ 24
  · rw [decide_eq_true ⟨by omega, h⟩] at ih
    show nameS (sE (k + 1) ++ ⟨#[195, 169]⟩) = _
    rw [name_app ih eac_name, (sE_cnt (k + 1)).2, eac_cnt]
    congr 1
    exact propext ⟨fun q => ⟨by omega, by omega⟩, fun q => by omega⟩
  · rw [decide_eq_false (by omega), Bool.eq_false_iff]
    intro q
    have := (nameS_iff.1 q).2.1
    rw [(sE_cnt (k + 2)).2] at this
    omega
theorem sE_no {c : Nat} (h1 : c ≠ 195) (h2 : c ≠ 169) : ∀ k, NoB c (sE k)
 | 0 => .nil c
 | k + 1 => (sE_no h1 h2 k).app (show NoB c (sOne 195 ++ sOne 169) from (NoB.one (by omega) (Ne.symm h1)).app (.one (by omega) (Ne.symm h2)))
theorem sE_plain (k : Nat) : Plain4 (sE k) := ⟨sE_no (by omega) (by omega) k, sE_no (by omega) (by omega) k, sE_no (by omega) (by omega) k, sE_no (by omega) (by omega) k⟩
theorem sE_nil (k : Nat) : decide (sE k = ⟨#[]⟩) = !decide (0 < k) := by
 by_cases h : k = 0
 · subst h
   rfl
 · rw [decide_eq_true (show 0 < k by omega), decide_eq_false]
   · rfl
   intro e
   have := congrArg ByteArray.size e
   rw [sE_size] at this
   have h0 : (⟨#[]⟩ : ByteArray).size = 0 := rfl
   omega
def baseL : List ByteArray := [⟨#[100, 111, 99]⟩, ⟨#[49]⟩, ⟨#[111, 119, 110]⟩, ⟨#[117, 115, 101, 114]⟩, ⟨#[97]⟩, ⟨#[105, 110]⟩]
def nmL (j : Nat) (s : ByteArray) (i : Nat) : ByteArray := if i = j then s else baseL.getD i ⟨#[]⟩
def tupJ (j : Nat) (s : ByteArray) : TuP := ((nmL j s 0, nmL j s 1, nmL j s 2), (nmL j s 3, nmL j s 4, nmL j s 5))
theorem tupJ_fmd {j k : Nat} (hj : j < 6) : fmdT (tupJ j (sE k)) = decide (k ≤ 24 ∧ (0 < k ∨ j = 5)) := by
 have n0 : nameS ⟨#[100, 111, 99]⟩ = true := by decide +kernel
 have n1 : nameS ⟨#[49]⟩ = true := by decide +kernel
 have n2 : nameS ⟨#[111, 119, 110]⟩ = true := by decide +kernel
 have n3 : nameS ⟨#[117, 115, 101, 114]⟩ = true := by decide +kernel
 have n4 : nameS ⟨#[97]⟩ = true := by decide +kernel
 have n5 : nameS ⟨#[105, 110]⟩ = true := by decide +kernel
 have e2 : decide ((⟨#[111, 119, 110]⟩ : ByteArray) = ⟨#[]⟩) = false := by decide
 have e5 : decide ((⟨#[105, 110]⟩ : ByteArray) = ⟨#[]⟩) = false := by decide
 have hn := sE_name k
 have he := sE_nil k
 obtain rfl | rfl | rfl | rfl | rfl | rfl : j = 0 ∨ j = 1 ∨ j = 2 ∨ j = 3 ∨ j = 4 ∨ j = 5 := by omega
 all_goals unfold fmdT fmdN
 · show (!decide ((⟨#[111, 119, 110]⟩ : ByteArray) = ⟨#[]⟩) && (nameS (sE k) && nameS ⟨#[49]⟩ && (decide ((⟨#[111, 119, 110]⟩ : ByteArray) = ⟨#[]⟩) || nameS ⟨#[111, 119, 110]⟩)) && (nameS ⟨#[117, 115, 101, 114]⟩ && nameS ⟨#[97]⟩ && (decide ((⟨#[105, 110]⟩ : ByteArray) = ⟨#[]⟩) || nameS ⟨#[105, 110]⟩))) = _
   rw [n1, n2, n3, n4, n5, e2, e5, hn]
   by_cases h0 : 0 < k <;> by_cases h24 : k ≤ 24 <;> first | (simp [h0, h24]; done) | omega
 · show (!decide ((⟨#[111, 119, 110]⟩ : ByteArray) = ⟨#[]⟩) && (nameS ⟨#[100, 111, 99]⟩ && nameS (sE k) && (decide ((⟨#[111, 119, 110]⟩ : ByteArray) = ⟨#[]⟩) || nameS ⟨#[111, 119, 110]⟩)) && (nameS ⟨#[117, 115, 101, 114]⟩ && nameS ⟨#[97]⟩ && (decide ((⟨#[105, 110]⟩ : ByteArray) = ⟨#[]⟩) || nameS ⟨#[105, 110]⟩))) = _
   rw [n0, n2, n3, n4, n5, e2, e5, hn]
   by_cases h0 : 0 < k <;> by_cases h24 : k ≤ 24 <;> first | (simp [h0, h24]; done) | omega
 · show (!decide ((sE k : ByteArray) = ⟨#[]⟩) && (nameS ⟨#[100, 111, 99]⟩ && nameS ⟨#[49]⟩ && (decide ((sE k : ByteArray) = ⟨#[]⟩) || nameS (sE k))) && (nameS ⟨#[117, 115, 101, 114]⟩ && nameS ⟨#[97]⟩ && (decide ((⟨#[105, 110]⟩ : ByteArray) = ⟨#[]⟩) || nameS ⟨#[105, 110]⟩))) = _
   rw [n0, n1, n3, n4, n5, he, e5, hn]
   by_cases h0 : 0 < k <;> by_cases h24 : k ≤ 24 <;> first | (simp [h0, h24]; done) | omega
 · show (!decide ((⟨#[111, 119, 110]⟩ : ByteArray) = ⟨#[]⟩) && (nameS ⟨#[100, 111, 99]⟩ && nameS ⟨#[49]⟩ && (decide ((⟨#[111, 119, 110]⟩ : ByteArray) = ⟨#[]⟩) || nameS ⟨#[111, 119, 110]⟩)) && (nameS (sE k) && nameS ⟨#[97]⟩ && (decide ((⟨#[105, 110]⟩ : ByteArray) = ⟨#[]⟩) || nameS ⟨#[105, 110]⟩))) = _
   rw [n0, n1, n2, n4, n5, e2, e5, hn]
   by_cases h0 : 0 < k <;> by_cases h24 : k ≤ 24 <;> first | (simp [h0, h24]; done) | omega
 · show (!decide ((⟨#[111, 119, 110]⟩ : ByteArray) = ⟨#[]⟩) && (nameS ⟨#[100, 111, 99]⟩ && nameS ⟨#[49]⟩ && (decide ((⟨#[111, 119, 110]⟩ : ByteArray) = ⟨#[]⟩) || nameS ⟨#[111, 119, 110]⟩)) && (nameS ⟨#[117, 115, 101, 114]⟩ && nameS (sE k) && (decide ((⟨#[105, 110]⟩ : ByteArray) = ⟨#[]⟩) || nameS ⟨#[105, 110]⟩))) = _
   rw [n0, n1, n2, n3, n5, e2, e5, hn]
   by_cases h0 : 0 < k <;> by_cases h24 : k ≤ 24 <;> first | (simp [h0, h24]; done) | omega
 · show (!decide ((⟨#[111, 119, 110]⟩ : ByteArray) = ⟨#[]⟩) && (nameS ⟨#[100, 111, 99]⟩ && nameS ⟨#[49]⟩ && (decide ((⟨#[111, 119, 110]⟩ : ByteArray) = ⟨#[]⟩) || nameS ⟨#[111, 119, 110]⟩)) && (nameS ⟨#[117, 115, 101, 114]⟩ && nameS ⟨#[97]⟩ && (decide ((sE k : ByteArray) = ⟨#[]⟩) || nameS (sE k)))) = _
   rw [n0, n1, n2, n3, n4, e2, he, hn]
   by_cases h0 : 0 < k <;> by_cases h24 : k ≤ 24 <;> first | (simp [h0, h24]; done) | omega
theorem tupJ_names (j : Nat) (s : ByteArray) : namesT (tupJ j s) = [nmL j s 0, nmL j s 1, nmL j s 2, nmL j s 3, nmL j s 4, nmL j s 5] := rfl
theorem noB_dec {c : Nat} {s : ByteArray} (h : decide (∀ k : Fin s.size, bt s k ≠ c) = true) : NoB c s := fun k hk => of_decide_eq_true h ⟨k, hk⟩
theorem base_plain : ∀ i, Plain4 (baseL.getD i ⟨#[]⟩)
 | 0 => ⟨noB_dec (by decide +kernel), noB_dec (by decide +kernel), noB_dec (by decide +kernel), noB_dec (by decide +kernel)⟩
 | 1 => ⟨noB_dec (by decide +kernel), noB_dec (by decide +kernel), noB_dec (by decide +kernel), noB_dec (by decide +kernel)⟩
 | 2 => ⟨noB_dec (by decide +kernel), noB_dec (by decide +kernel), noB_dec (by decide +kernel), noB_dec (by decide +kernel)⟩
 | 3 => ⟨noB_dec (by decide +kernel), noB_dec (by decide +kernel), noB_dec (by decide +kernel), noB_dec (by decide +kernel)⟩
 | 4 => ⟨noB_dec (by decide +kernel), noB_dec (by decide +kernel), noB_dec (by decide +kernel), noB_dec (by decide +kernel)⟩
 | 5 => ⟨noB_dec (by decide +kernel), noB_dec (by decide +kernel), noB_dec (by decide +kernel), noB_dec (by decide +kernel)⟩
 | _ + 6 => ⟨.nil _, .nil _, .nil _, .nil _⟩
theorem base_size : ∀ i, (baseL.getD i ⟨#[]⟩).size ≤ 60
 | 0 => by decide
 | 1 => by decide
 | 2 => by decide
 | 3 => by decide
 | 4 => by decide
 | 5 => by decide
 | _ + 6 => Nat.zero_le _
theorem nmL_plain (j k i : Nat) : Plain4 (nmL j (sE k) i) := by
 unfold nmL
 split
 · exact sE_plain k
 · exact base_plain i
theorem nmL_size {j k : Nat} (h : k < 30) (i : Nat) : (nmL j (sE k) i).size ≤ 60 := by
 unfold nmL
 split
 · rw [sE_size]
   omega
 · exact base_size i
theorem tupJ_plain (j k : Nat) : ∀ x ∈ namesT (tupJ j (sE k)), Plain4 x := by
 intro x hx
 rw [tupJ_names] at hx
 simp only [List.mem_cons, List.not_mem_nil, or_false] at hx
 rcases hx with rfl | rfl | rfl | rfl | rfl | rfl <;> exact nmL_plain j k _
end Go.Proofs.YtahegpfdbgbioaaGreat
