/- Layer 8: the document's own Show: a schema as a text. Conditions: its rewrites are trees; names, lists and the text aren't too long. -/
import Derived.Test.YtkeonempmchpnaaFromW
import Derived.Test.YtkeonempmchpnaaShowW
namespace Go.Proofs.Ytkeonempmchpnaa
open Go.RowKit

/-- Who, with a blank ahead. -/
def subsR (l : List SubP) : ByteArray := if l.length = 0 then ⟨#[]⟩ else ⟨#[32]⟩ ++ subsS l
theorem tailJ_app (sep : ByteArray) (x : ByteArray) : ∀ l : List ByteArray, tailJ sep (l ++ [x]) = tailJ sep l ++ (sep ++ x)
  | [] => by
    show sep ++ x ++ ⟨#[]⟩ = ⟨#[]⟩ ++ (sep ++ x)
    rw [app_nil, nil_app']
  | y :: r => by
    show sep ++ y ++ tailJ sep (r ++ [x]) = sep ++ y ++ tailJ sep r ++ (sep ++ x)
    rw [tailJ_app sep x r, app_assoc (sep ++ y)]
theorem subsR_snoc (l : List SubP) (s : SubP) : subsR (l ++ [s]) = subsR l ++ (if l.length = 0 then ⟨#[32]⟩ ++ subS s else ⟨#[44]⟩ ++ (⟨#[32]⟩ ++ subS s)) := by
  have h : subsR (l ++ [s]) = ⟨#[32]⟩ ++ subsS (l ++ [s]) := if_neg (by simp)
  rw [h]
  cases l with
  | nil =>
    show ⟨#[32]⟩ ++ (subS s ++ ⟨#[]⟩) = ⟨#[]⟩ ++ (⟨#[32]⟩ ++ subS s)
    rw [app_nil, nil_app']
  | cons y r =>
    rw [if_neg (by simp)]
    have h2 : subsR (y :: r) = ⟨#[32]⟩ ++ subsS (y :: r) := if_neg (by simp)
    rw [h2]
    show ⟨#[32]⟩ ++ (subS y ++ tailJ ⟨#[44, 32]⟩ ((r ++ [s]).map subS)) = ⟨#[32]⟩ ++ (subS y ++ tailJ ⟨#[44, 32]⟩ (r.map subS)) ++ _
    rw [List.map_append, show [s].map subS = [subS s] from rfl, tailJ_app]
    have e : (⟨#[44, 32]⟩ : ByteArray) = ⟨#[44]⟩ ++ ⟨#[32]⟩ := by decide +kernel
    rw [e]
    simp only [app_assoc]
def hdR (x : RelP) : ByteArray := (⟨#[9, 114, 101, 108, 32]⟩ : ByteArray) ++ x.name ++ ⟨#[32, 40]⟩ ++ x.view ++ ⟨#[44, 32]⟩ ++ x.edit ++ ⟨#[44, 32]⟩ ++ x.check ++ ⟨#[41, 58]⟩
theorem hdR_eq (x : RelP) : hdR x = ⟨#[9]⟩ ++ headS x := by
  have e : (⟨#[9, 114, 101, 108, 32]⟩ : ByteArray) = ⟨#[9]⟩ ++ ⟨#[114, 101, 108, 32]⟩ := by decide +kernel
  unfold hdR headS
  rw [e]
  simp only [app_assoc]
theorem lineR (x : RelP) : lineS x = (if aloneB x.ops = true then hdR x ++ subsR x.subs else hdR x ++ subsR x.subs ++ (⟨#[32, 105, 115, 32]⟩ ++ rewS x.ops)) ++ ⟨#[59, 10]⟩ := by
  have hw : ⟨#[9]⟩ ++ whoS x = hdR x ++ subsR x.subs := by
    rw [hdR_eq]
    unfold whoS subsR
    split
    · rw [app_nil]
    · rw [app_assoc]
  have e : (⟨#[59, 10]⟩ : ByteArray) = ⟨#[59]⟩ ++ ⟨#[10]⟩ := by decide +kernel
  unfold lineS relS
  rw [e]
  split
  · rw [← hw]; simp only [app_assoc]
  · rw [← hw]; simp only [app_assoc]
structure TreeR (x : RelP) : Prop where
  tree : ∃ t : Ex, x.ops = t.ops ∧ t.good ∧ t.sml
theorem alone_tree {t : Ex} : aloneB t.ops = (!(decide (1 < t.ops.length) || decide (1 < ((t.ops.headD (0, ⟨#[]⟩, ⟨#[]⟩)).1)))) := by
  cases t with
  | bin k a b =>
    have h : 1 < (Ex.bin k a b).ops.length := by
      rw [Ex.ops_bin]
      have := a.ops_pos
      omega
    have h2 : aloneB (Ex.bin k a b).ops = false := by
      generalize (Ex.bin k a b).ops = l at *
      rcases l with _ | ⟨x, _ | ⟨y, r⟩⟩
      · rfl
      · exact absurd h (by simp)
      · rfl
    rw [h2, decide_eq_true h]
    rfl
  | _ => rfl
set_option maxRecDepth 100000 in
set_option maxHeartbeats 8000000 in
theorem rshow_any {w : World} {B : Nat} {A : Option Addr} {c : Nat} {T : List TypP} (hv : DVTyps B w (.slice A T.length c) T) (hT : T.length ≤ 1000000) (hs : ∀ t ∈ T, SmlT t) (htr : ∀ t ∈ T, ∀ x ∈ t.rels, TreeR x) (hz : (showS T).size ≤ 90000000000000) :
    Calls Try.prog 18 #[.slice A T.length c] w fun e w' => e = .returned (.string (showS T)) ∧ Below w.heap.size w w' := by
  have HS := Lib.hid hs
  have HTR := Lib.hid htr
  have hvz : ∀ t i, T[i]? = some t → ∃ g vr, A = some ⟨g, 0, none⟩ ∧ g < w.heap.size ∧ DVRels B w vr t.rels ∧ w.cell? ⟨g, i * 2, none⟩ = some (.string t.name) ∧ w.cell? ⟨g, i * 2 + 1, none⟩ = some vr := by
    intro t i hi
    obtain ⟨g, c2, vr, e1, hr, g0, g1⟩ := hv.get hi
    cases e1
    exact ⟨g, vr, rfl, World.block_lt_of_cell? _ _ g0, hr, g0, g1⟩
  have HV := Lib.hid hvz
  clear hv hvz hs htr
  go_enter Try.func18, Try.ntmps18
  go_wp2_with fail
  go_loopw [3, 4] (fun vs vi wr => ∃ i : Nat, vi = .int .i64 i ∧ i ≤ T.length ∧ vs = .string (catL ((T.take i).map typS)) ∧ Below w.heap.size w wr) (fun _ vi _ => T.length - (intOf vi).toNat)
  case atStart => exact ⟨0, rfl, Nat.zero_le _, rfl, Below.refl _ _⟩
  case round =>
    obtain ⟨i, rfl, hi, rfl, hb⟩ := hrel
    have hz1 := hb.size
    by_cases hil : i < T.length
    · obtain ⟨t, ht⟩ : ∃ t, T[i]? = some t := ⟨T[i], List.getElem?_eq_getElem hil⟩
      obtain ⟨hn, hr1, hr2⟩ := HS.out t (List.mem_of_getElem? ht)
      have htt := HTR.out t (List.mem_of_getElem? ht)
      obtain ⟨hc1, hc2⟩ := cat_at typS ht
      obtain ⟨g, vr, rfl, hg, hr, g0, g1⟩ := HV.out t i ht
      obtain ⟨Ar, cr, rfl, _⟩ := Rd.own hr.choose_spec.1
      have q0 := (hb.cell (p := ⟨g, i * 2, none⟩) hg).trans g0
      have q1 := (hb.cell (p := ⟨g, i * 2 + 1, none⟩) hg).trans g1
      have hdi : (i : Int) < (T.length : Nat) := by omega
      have hzt : (showS T).size = (catL (T.map typS)).size := rfl
      have HT : Hid (topS t = (⟨#[116, 121, 112, 101, 32]⟩ : ByteArray) ++ t.name ++ ⟨#[32, 123, 10]⟩) := Lib.hid rfl
      have htz : (typS t).size = (topS t).size + (catL (t.rels.map lineS)).size + 2 := by unfold typS; rw [size_app, size_app]; rfl
      obtain ⟨Q, hQ⟩ : ∃ q, catL ((T.take i).map typS) = q := ⟨_, rfl⟩
      rw [hQ] at hc2 ⊢
      have hqz : Q.size ≤ 90000000000000 := by omega
      obtain ⟨P, hP⟩ : ∃ p, Q ++ topS t = p := ⟨_, rfl⟩
      have hPz : P.size + (catL (t.rels.map lineS)).size + 2 ≤ (showS T).size := by
        rw [← hP, size_app]
        omega
      have HTY : Hid (P ++ catL (t.rels.map lineS) ++ ⟨#[125, 10]⟩ = catL ((T.take (i + 1)).map typS)) := Lib.hid (by
        rw [hc1, hQ, ← hP]
        unfold typS
        simp only [app_assoc])
      have HP := Lib.hid hP
      have hP2 := hP
      rw [HT.out] at hP2
      have HP2 := Lib.hid hP2
      clear hP hP2 hQ hc1 hc2 htz
      have hgo : (showS T).size ≤ 90000000000000 := hz
      go_upto_region 6 with (fail)
      rw [HP2.out]
      clear hqz
      go_wp2_with fail
      go_loopw [3, 5] (fun vs vk wy => ∃ k : Nat, vk = .int .i64 k ∧ k ≤ t.rels.length ∧ vs = .string (P ++ catL ((t.rels.take k).map lineS)) ∧ Below w.heap.size w wy) (fun _ vk _ => t.rels.length - (intOf vk).toNat)
      case atStart => exact ⟨0, rfl, Nat.zero_le _, (by rw [show catL ((t.rels.take 0).map lineS) = ⟨#[]⟩ from rfl, app_nil]), hb⟩
      case round =>
        clear q0 q1 hb
        obtain ⟨k, rfl, hk, rfl, hb⟩ := hrel
        have hz2 := hb.size
        have q0 := (hb.cell (p := ⟨g, i * 2, none⟩) hg).trans g0
        have q1 := (hb.cell (p := ⟨g, i * 2 + 1, none⟩) hg).trans g1
        by_cases hkl : k < t.rels.length
        · obtain ⟨x, hx⟩ : ∃ x, t.rels[k]? = some x := ⟨t.rels[k], List.getElem?_eq_getElem hkl⟩
          have hsx := hr2 x (List.mem_of_getElem? hx)
          obtain ⟨tx, hto, htg, hts⟩ := (htt x (List.mem_of_getElem? hx)).tree
          have HTO := Lib.hid hto
          clear hto
          obtain ⟨hd1, hd2⟩ := cat_at lineS hx
          obtain ⟨gr, c3, vs, vo, e1, hs, ho, r0, r1, r2, r3, r4, r5⟩ := hr.get hx
          cases e1
          obtain ⟨As, cS, rfl, rs⟩ := Rd.own hs
          obtain ⟨Ao, cO, rfl, ro⟩ := Rd.own ho
          have hgr := World.block_lt_of_cell? _ _ r0
          dsimp only at hgr
          have s0 := (hb.cell (p := ⟨gr, k * 6, none⟩) hgr).trans r0
          have s1 := (hb.cell (p := ⟨gr, k * 6 + 1, none⟩) hgr).trans r1
          have s2 := (hb.cell (p := ⟨gr, k * 6 + 2, none⟩) hgr).trans r2
          have s3 := (hb.cell (p := ⟨gr, k * 6 + 3, none⟩) hgr).trans r3
          have s4 := (hb.cell (p := ⟨gr, k * 6 + 4, none⟩) hgr).trans r4
          have s5 := (hb.cell (p := ⟨gr, k * 6 + 5, none⟩) hgr).trans r5
          have hdk : (k : Int) < (t.rels.length : Nat) := by omega
          have h1 := hsx.name
          have h2 := hsx.view
          have h3 := hsx.edit
          have h4 := hsx.check
          have h7 := hsx.subs.1
          have hN := hsx.subs.2
          have h8 := hsx.ops.1
          have HLN := Lib.hid (lineR x)
          obtain ⟨P1, hP1⟩ : ∃ p, P ++ catL ((t.rels.take k).map lineS) = p := ⟨_, rfl⟩
          rw [hP1]
          have hP1z : P1.size + (lineS x).size ≤ 90000000000000 := by
            rw [← hP1, size_app]
            omega
          have HNX : Hid (P1 ++ lineS x = P ++ catL ((t.rels.take (k + 1)).map lineS)) := Lib.hid (by rw [hd1, ← hP1, app_assoc])
          have hal : Below wr.heap.size wr (wr.alloc (.cells #[.string x.name, .string x.view, .string x.edit, .string x.check, .slice As x.subs.length cS, .slice Ao x.ops.length cO] 50)) := (Below.refl _ wr).alloc (Nat.le_refl _) _
          have hb2 := hb.trans (hal.mono hz2)
          have hbx := Bk.new wr #[.string x.name, .string x.view, .string x.edit, .string x.check, .slice As x.subs.length cS, .slice Ao x.ops.length cO] 50
          have z0 := hbx.cell 0
          have z1 := hbx.cell 1
          have z2 := hbx.cell 2
          have z3 := hbx.cell 3
          have z4 := hbx.cell 4
          have z5 := hbx.cell 5
          have lz := hbx.lt
          have hrs := (rs.below hb2).more hb2.size
          have hro := (ro.below hb2).more hb2.size
          have HH : Hid (hdR x = (⟨#[9, 114, 101, 108, 32]⟩ : ByteArray) ++ x.name ++ ⟨#[32, 40]⟩ ++ x.view ++ ⟨#[44, 32]⟩ ++ x.edit ++ ⟨#[44, 32]⟩ ++ x.check ++ ⟨#[41, 58]⟩) := Lib.hid rfl
          clear hs ho rs ro r0 r1 r2 r3 r4 r5 hal hbx hP1
          have hP1s : P1.size ≤ 90000000000000 := by omega
          go_upto_region 11 with (fail)
          rw [← HH.out]
          obtain ⟨P2, hP2'⟩ : ∃ p, P1 ++ hdR x = p := ⟨_, rfl⟩
          rw [hP2']
          generalize wr.alloc (.cells #[.string x.name, .string x.view, .string x.edit, .string x.check, .slice As x.subs.length cS, .slice Ao x.ops.length cO] 50) = W at *
          have hP2z : P2.size ≤ 91000000000000 := by
            rw [← hP2', size_app, hdR_eq, size_app]
            have := (who_size hsx).1
            show P1.size + (1 + _) ≤ _
            omega
          have HL2 : Hid (∀ b, aloneB x.ops = b → (if b = true then P2 ++ subsR x.subs else P2 ++ subsR x.subs ++ (⟨#[32, 105, 115, 32]⟩ ++ rewS x.ops)) ++ ⟨#[59, 10]⟩ = P1 ++ lineS x) := Lib.hid (by
            intro b hbq
            rw [HLN.out, hbq, ← hP2']
            cases b <;> simp only [Bool.false_eq_true, ↓reduceIte, app_assoc])
          have hsz9 := subs_size hN
          have hsz10 := rew_size hsx.ops.2
          clear s0 s1 s2 s3 s4 s5 z0 z1 z2 z3 hP2' hP1z hP1s q0 q1 hsx
          go_wp2_with fail
          go_loopw [3, 7] (fun vs vj wz => ∃ j : Nat, vj = .int .i64 j ∧ j ≤ x.subs.length ∧ vs = .string (P2 ++ subsR (x.subs.take j)) ∧ wz = W) (fun _ vj _ => x.subs.length - (intOf vj).toNat)
          case atStart => exact ⟨0, rfl, Nat.zero_le _, (by rw [show subsR (x.subs.take 0) = ⟨#[]⟩ from rfl, app_nil]), rfl⟩
          case round =>
            obtain ⟨j, rfl, hj, rfl, rfl⟩ := hrel
            by_cases hjl : j < x.subs.length
            · obtain ⟨s, hsj⟩ : ∃ s, x.subs[j]? = some s := ⟨x.subs[j], List.getElem?_eq_getElem hjl⟩
              obtain ⟨sz1, sz2⟩ := hN s (List.mem_of_getElem? hsj)
              obtain ⟨bs, fs, rfl, hbs, hcs⟩ := hrs.at_ (by omega)
              obtain ⟨e0, e1⟩ := scells_at x.subs j s hsj
              have y0 := hcs _ _ e0
              have y1 : World.cell? _ ⟨bs, fs + j * 2 + 1, none⟩ = some (.string s.2) := hcs _ _ e1
              have hdj : (j : Int) < (x.subs.length : Nat) := by omega
              have htk : (x.subs.take j).length = j := by rw [List.length_take]; omega
              have hsn := subsR_snoc (x.subs.take j) s
              rw [← take_snoc8 hsj, htk] at hsn
              have hsub : (subsR (x.subs.take j)).size ≤ 1000000000 := by
                unfold subsR
                split
                · exact Nat.zero_le _
                · rw [size_app]
                  have := subs_size (l := x.subs.take j) fun y hy => hN y (List.mem_of_mem_take hy)
                  rw [htk] at this
                  show 1 + _ ≤ _
                  omega
              have HZ : Hid (∀ b : Bool, decide (j = 0) = b → ∀ c : Bool, s.2.toList.isEmpty = c → P2 ++ subsR (x.subs.take (j + 1)) = (if b = true then P2 ++ subsR (x.subs.take j) else P2 ++ subsR (x.subs.take j) ++ ⟨#[44]⟩) ++ (⟨#[32]⟩ ++ s.1) ++ (if c = true then ⟨#[]⟩ else ⟨#[35]⟩ ++ s.2)) := Lib.hid (by
                intro b hb' c hc'
                have hss : subS s = s.1 ++ (if c = true then ⟨#[]⟩ else ⟨#[35]⟩ ++ s.2) := by
                  unfold subS
                  rw [← hc']
                  rcases Nat.eq_zero_or_pos s.2.size with h | h
                  · rw [if_pos (nil_size h), if_pos (by rw [nil_size h]; decide +kernel), app_nil]
                  · rw [if_neg (fun e => by rw [e] at h; exact absurd h (by decide)), if_neg (by rw [list_ne2 h]; decide), app_assoc]
                rw [hsn, hss]
                cases b with
                | true => rw [if_pos (of_decide_eq_true hb'), if_pos rfl]; simp only [app_assoc]
                | false => rw [if_neg (of_decide_eq_false hb')]; simp only [Bool.false_eq_true, ↓reduceIte, app_assoc])
              have hZz : (P2 ++ subsR (x.subs.take j)).size ≤ 92000000000000 := by rw [size_app]; omega
              clear hsn hsub htk hcs
              generalize P2 ++ subsR (x.subs.take j) = Z at *
              by_cases h0 : j = 0
              · have d0 : ¬ (0 : Int) < (j : Nat) := by omega
                have HJ := Lib.hid h0
                clear h0
                cases he : s.2.toList.isEmpty with
                | true =>
                  go_wp2_with fail
                  refine ⟨⟨j + 1, by go_num, by omega, ?_, trivial⟩, ?_⟩
                  · rw [HZ.out _ (decide_eq_true HJ.out) _ he, if_pos rfl, if_pos rfl, app_nil]
                  · simp only [intOf]; omega
                | false =>
                  go_wp2_with fail
                  refine ⟨⟨j + 1, by go_num, by omega, ?_, trivial⟩, ?_⟩
                  · rw [HZ.out _ (decide_eq_true HJ.out) _ he, if_pos rfl, if_neg (by decide)]
                  · simp only [intOf]; omega
              · have d0 : (0 : Int) < (j : Nat) := by omega
                have HJ := Lib.hid h0
                clear h0
                cases he : s.2.toList.isEmpty with
                | true =>
                  go_wp2_with fail
                  refine ⟨⟨j + 1, by go_num, by omega, ?_, trivial⟩, ?_⟩
                  · rw [HZ.out _ (decide_eq_false HJ.out) _ he, if_neg (by decide), if_pos rfl, app_nil]
                  · simp only [intOf]; omega
                | false =>
                  go_wp2_with fail
                  refine ⟨⟨j + 1, by go_num, by omega, ?_, trivial⟩, ?_⟩
                  · rw [HZ.out _ (decide_eq_false HJ.out) _ he, if_neg (by decide), if_neg (by decide)]
                  · simp only [intOf]; omega
            · obtain rfl : j = x.subs.length := by omega
              have hdj : ¬ (x.subs.length : Int) < (x.subs.length : Nat) := by omega
              rw [List.take_length]
              have hsub : (subsR x.subs).size ≤ 1000000000 := by
                unfold subsR
                split
                · exact Nat.zero_le _
                · rw [size_app]
                  show 1 + _ ≤ _
                  omega
              have hZz : (P2 ++ subsR x.subs).size ≤ 92000000000000 := by rw [size_app]; omega
              have hat := alone_tree (t := tx)
              rw [← HTO.out] at hat
              have hpos : 1 ≤ x.ops.length := by rw [HTO.out]; exact tx.ops_pos
              obtain ⟨o0, ho0⟩ : ∃ o, x.ops[0]? = some o := ⟨x.ops[0], List.getElem?_eq_getElem hpos⟩
              have hhd : x.ops.headD (0, ⟨#[]⟩, ⟨#[]⟩) = o0 := by
                cases hq : x.ops with
                | nil => rw [hq] at ho0; cases ho0
                | cons a r => rw [hq] at ho0; injection ho0
              rw [hhd] at hat
              obtain ⟨bo, fo, eA, hbo, hco⟩ := hro.at_ (by omega)
              have w0 : World.cell? _ ⟨bo, fo, none⟩ = some (.int .i64 (o0.1 : Nat)) := hco 0 _ (by have := (ocells_at x.ops 0 o0 ho0).1; rwa [Nat.zero_mul] at this)
              have hrt : rewS x.ops = tx.text := by rw [HTO.out]; exact rewS_tree tx htg
              have kr : ∀ W, Rd W W.heap.size 3 Ao x.ops.length cO (ocells x.ops) → Calls Try.prog 16 #[.slice Ao x.ops.length cO] W fun e w' => e = .returned (.string (rewS x.ops)) ∧ Below W.heap.size W w' := fun W hW => by
                rw [hrt, HTO.out]
                rw [HTO.out] at hW
                exact rref_rewrite tx htg hts hW (by rw [← HTO.out]; exact h8)
              have HQ : Hid (∀ b, aloneB x.ops = b → (if b = true then P2 ++ subsR x.subs else P2 ++ subsR x.subs ++ (⟨#[32, 105, 115, 32]⟩ ++ rewS x.ops)) ++ ⟨#[59, 10]⟩ = P ++ catL ((t.rels.take (k + 1)).map lineS)) := Lib.hid fun b hbq => by rw [HL2.out b hbq, HNX.out]
              subst eA
              clear hco hhd ho0 hrt hrs HL2 HNX
              generalize P2 ++ subsR x.subs = Z at *
              generalize rewS x.ops = RW at *
              by_cases hn1 : 1 < x.ops.length
              · have d1 : (1 : Int) < (x.ops.length : Nat) := by omega
                have hal : aloneB x.ops = false := by rw [hat, decide_eq_true hn1]; rfl
                have HQ2 := Lib.hid (HQ.out _ hal)
                simp only [Bool.false_eq_true, ↓reduceIte] at HQ2
                clear hat hal hn1
                go_wp2_with fail
                refine (kr _ hro).mono ?_
                rintro e V ⟨rfl, hV⟩
                go_wp2_with fail
                refine ⟨⟨k + 1, by go_num, by omega, by rw [HQ2.out], hb2.trans (hV.mono hb2.size)⟩, ?_⟩
                simp only [intOf]; omega
              · have d1 : ¬ (1 : Int) < (x.ops.length : Nat) := by omega
                by_cases hk1 : 1 < o0.1
                · have d2 : (1 : Int) < (o0.1 : Nat) := by omega
                  have hal : aloneB x.ops = false := by rw [hat, decide_eq_true hk1, Bool.or_true]; rfl
                  have HQ2 := Lib.hid (HQ.out _ hal)
                  simp only [Bool.false_eq_true, ↓reduceIte] at HQ2
                  clear hat hal hn1 hk1
                  go_wp2_with fail
                  refine (kr _ hro).mono ?_
                  rintro e V ⟨rfl, hV⟩
                  go_wp2_with fail
                  refine ⟨⟨k + 1, by go_num, by omega, by rw [HQ2.out], hb2.trans (hV.mono hb2.size)⟩, ?_⟩
                  simp only [intOf]; omega
                · have d2 : ¬ (1 : Int) < (o0.1 : Nat) := by omega
                  have hal : aloneB x.ops = true := by rw [hat, decide_eq_false hn1, decide_eq_false hk1]; rfl
                  have HQ2 := Lib.hid (HQ.out _ hal)
                  simp only [↓reduceIte] at HQ2
                  clear hat hal hn1 hk1
                  go_wp2_with fail
                  refine ⟨⟨k + 1, by go_num, by omega, by rw [HQ2.out], hb2⟩, ?_⟩
                  simp only [intOf]; omega
        · obtain rfl : k = t.rels.length := by omega
          have hdk : ¬ (t.rels.length : Int) < (t.rels.length : Nat) := by omega
          rw [List.take_length]
          have hPs : (P ++ catL (t.rels.map lineS)).size ≤ 90000000000000 := by rw [size_app]; omega
          have HTY2 := HTY
          generalize P ++ catL (t.rels.map lineS) = PP at *
          go_wp2_with fail
          refine ⟨⟨i + 1, by go_num, by omega, by rw [HTY2.out], hb⟩, ?_⟩
          simp only [intOf]; omega
    · obtain rfl : i = T.length := by omega
      have hdi : ¬ (T.length : Int) < (T.length : Nat) := by omega
      rw [List.take_length, show catL (T.map typS) = showS T from rfl]
      go_wp2_with fail
      go_returns
      exact ⟨rfl, hb⟩
end Go.Proofs.Ytkeonempmchpnaa
