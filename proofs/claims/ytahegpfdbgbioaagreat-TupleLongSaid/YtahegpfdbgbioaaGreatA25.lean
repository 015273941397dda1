import Derived.StillTailTactics
import Derived.WalkMore
import Derived.Test.YtahegpfdbgbioaaGreatA21
import Derived.Test.YtahegpfdbgbioaaGreatA23
set_option maxRecDepth 100000
set_option maxHeartbeats 4000000
namespace Go.Proofs.YtahegpfdbgbioaaGreat
open Go.RowKit
theorem NmW.sizeS {n : ByteArray} (h : NmW n) : n.size ≤ 1000 := Nat.le_trans (name_size h.1) (by decide)
theorem ops_smlS : ∀ t : Ex, t.nm → ∀ o ∈ t.ops, o.2.1.size ≤ 1000 ∧ o.2.2.size ≤ 1000
 | .this, _ => fun o ho => by rw [List.mem_singleton.1 ho]; exact ⟨Nat.zero_le _, Nat.zero_le _⟩
 | .same n, h => by
  have h2 : NmW n := h
  exact fun o ho => by rw [List.mem_singleton.1 ho]; exact ⟨h2.sizeS, Nat.zero_le _⟩
 | .via n m, h => fun o ho => by rw [List.mem_singleton.1 ho]; exact ⟨h.1.sizeS, h.2.sizeS⟩
 | .bin k a b, h => fun o ho => by
  rcases List.mem_append.1 ho with ho | ho
  · rcases List.mem_append.1 ho with ho | ho
    · exact ops_smlS a h.1 o ho
    · exact ops_smlS b h.2 o ho
  · rw [List.mem_singleton.1 ho]; exact ⟨Nat.zero_le _, Nat.zero_le _⟩
theorem sml_relS {x : RelP} (g : RelG x) (f : FewR 2049 x) : Sml x ∧ (lineS x).size ≤ 10300000 := by
 obtain ⟨t, h1, h2, h3, h4⟩ := g.ops
 have s2 := ops_smlS t h3
 have hs : Sml x := ⟨g.name.sizeS, g.view.sizeS, g.edit.sizeS, g.check.sizeS, ⟨Nat.le_trans f.1 (by decide), fun s hs => ⟨(g.subs s hs).1.sizeS, by
  rcases (g.subs s hs).2 with e | e
  · rw [e]; exact Nat.zero_le _
  · exact e.sizeS⟩⟩, ⟨Nat.le_trans f.2 (by decide), fun o ho => by rw [h1] at ho; exact s2 o ho⟩⟩
 refine ⟨hs, ?_⟩
 have w := (who_size hs).2
 have r := rew_size hs.ops.2
 have f1 := f.1
 have f2 := f.2
 have : (relS x).size ≤ (whoS x).size + 4 + (rewS x.ops).size + 1 := by
  unfold relS
  rw [size_app]
  split
  · show _ + 1 ≤ _; omega
  · rw [size_app, size_app]; show _ + (4 + _) + 1 ≤ _; omega
 unfold lineS
 rw [size_app, size_app]
 show 1 + _ + 1 ≤ _
 omega
theorem cat_sizeS {α : Type} (f : α → ByteArray) (N : Nat) : ∀ l : List α, (∀ x ∈ l, (f x).size ≤ N) → (catL (l.map f)).size ≤ l.length * N
 | [], _ => Nat.zero_le _
 | x :: r, h => by
  have h1 := h x List.mem_cons_self
  have h2 := cat_sizeS f N r fun y hy => h y (List.mem_cons_of_mem _ hy)
  show (f x ++ catL (r.map f)).size ≤ _
  rw [size_app, List.length_cons, Nat.succ_mul]
  omega
theorem says_sml (s : ByteArray) : (parseS s).1.length ≤ 1000000 ∧ (∀ t ∈ (parseS s).1, SmlT t) ∧ (showS (parseS s).1).size ≤ 90000000000000 := by
 have hf := few10 s
 have hg := parse_goodT s
 generalize (parseS s).1 = T at *
 have hr : ∀ t ∈ T, ∀ x ∈ t.rels, Sml x ∧ (lineS x).size ≤ 10300000 := fun t ht x hx => sml_relS ((hg t ht).rels x hx) ((hf.2 t ht).2 x hx)
 refine ⟨Nat.le_trans hf.1 (by decide), fun t ht => ⟨(hg t ht).name.sizeS, Nat.le_trans (hf.2 t ht).1 (by decide), fun x hx => (hr t ht x hx).1⟩, ?_⟩
 have h1 : ∀ t ∈ T, (typS t).size ≤ 21200000000 := fun t ht => by
  have h2 := cat_sizeS lineS 10300000 t.rels fun x hx => (hr t ht x hx).2
  have h3 := (hf.2 t ht).1
  have h4 := (hg t ht).name.sizeS
  have h5 : t.rels.length * 10300000 ≤ 2049 * 10300000 := Nat.mul_le_mul_right _ h3
  unfold typS topS
  rw [size_app, size_app, size_app, size_app]
  show 5 + _ + 3 + _ + 2 ≤ _
  omega
 have h2 := cat_sizeS typS 21200000000 T h1
 have h3 : T.length * 21200000000 ≤ 2049 * 21200000000 := Nat.mul_le_mul_right _ hf.1
 show (catL (T.map typS)).size ≤ _
 omega
theorem relsA_few {l : List TypA} (h : Right (l.map TypA.says)) : (relsA l).length ≤ 96 := by
 have := h.rels_le
 rw [← relsA_says, List.length_map] at this
 exact this
theorem edges_in {l : List TypA} {e : Ed} (h : e ∈ edgesP (l.map TypA.says)) : 0 ≤ e.1 ∧ e.1 < (relsA l).length ∧ 0 ≤ e.2.1 ∧ e.2.1 < (relsA l).length ∧ e ∈ pairsE (relsA l).length := by
 rw [edgesP_is] at h
 obtain ⟨a, b, ha, hb, e1, e2⟩ := mem_relsD h
 have hb : b < (relsA l).length := by simpa [pathsA] using hb
 exact ⟨by omega, by omega, by omega, by omega, mem_pairs ha hb e1 e2⟩
theorem edges_few {l : List TypA} {zs : List Ed} (hR : Right (l.map TypA.says)) (h1 : Rising zs) (h2 : ∀ e, e ∈ zs ↔ e ∈ edgesP (l.map TypA.says)) : zs.length ≤ 18432 := by
 have h3 := nodup_sub_len (rising_nodup h1) fun e he => (edges_in ((h2 e).1 he)).2.2.2.2
 rw [pairsE_len] at h3
 have h4 := relsA_few hR
 have h5 : (relsA l).length * ((relsA l).length * 2) ≤ 96 * (96 * 2) := Nat.mul_le_mul h4 (Nat.mul_le_mul h4 (Nat.le_refl _))
 omega
theorem said_relsA {s : ByteArray} {l : List TypA} (hl : l.map TypA.says = (parseS s).1.map typI) (hR : Right (l.map TypA.says)) : (relsA l).length ≤ 600 ∧ ∀ x ∈ relsA l, x.2.subs.length ≤ 100000 ∧ x.2.ops.length ≤ 100000 :=
 few_of (Nat.le_trans hR.rels_le (by decide)) fun x hx => by
  unfold relsOf at hx
  obtain ⟨t, ht, hx⟩ := List.mem_flatMap.1 hx
  obtain ⟨r, hr, rfl⟩ := List.mem_map.1 hx
  obtain ⟨_, _, _, h1, h2⟩ := said_tree (hl ▸ ht) hr
  exact ⟨Nat.le_trans h2 (by decide), Nat.le_trans h1 (by decide)⟩
theorem pathsA_of (l : List TypA) : pathsOf (l.map TypA.says) = pathsA (relsA l) := by
 unfold pathsOf pathsA
 rw [← relsA_says, List.map_map]
 rfl
end Go.Proofs.YtahegpfdbgbioaaGreat
namespace Go.Proofs.YtahegpfdbgbioaaGreat
open Go.RowKit
open Go.RowKit
open Go.RowKit
open Go.RowKit
theorem flat_take {α : Type} (g : α → List Value) {sz : Nat} (hg : ∀ a, (g a).length = sz) : ∀ (l : List α) (i : Nat), (l.take i).flatMap g = (l.flatMap g).take (i * sz)
 | [], i => by simp
 | x :: r, 0 => by simp
 | x :: r, i + 1 => by
  have e1 : (g x).take ((i + 1) * sz) = g x := List.take_of_length_le (by rw [hg, Nat.succ_mul]; omega)
  rw [List.take_succ_cons, List.flatMap_cons, List.flatMap_cons, flat_take g hg r i, List.take_append, e1, hg, show (i + 1) * sz - sz = i * sz by rw [Nat.succ_mul]; omega]
theorem SubsA.pre {w : World} {A : Option Addr} {c : Nat} {l : List (ByteArray × ByteArray)} (h : SubsA w A c l) {i : Nat} (hi : i ≤ l.length) : SubsA w A c (l.take i) := by
 have e : (l.take i).length = i := by rw [List.length_take]; omega
 refine ⟨?_⟩
 rw [e, flat_take aSub (sz := 2) (fun _ => rfl)]
 exact h.rows.pre hi
theorem subsE_at {l : List TypI} {s : List (ByteArray × ByteArray)} {i : Nat} {x : ByteArray × ByteArray} (hx : s[i]? = some x) :
 subsE l (s.take i) (s.drop i) = if subOk l x = false then 31 else if (s.take i).any (fun y => decide (y = x)) = true then 32 else subsE l (s.take (i + 1)) (s.drop (i + 1)) := by
 rw [List.drop_eq_getElem_cons (List.getElem?_eq_some_iff.1 hx).1, (List.getElem?_eq_some_iff.1 hx).2, take_snoc hx]
 rfl
theorem names_not {q : TypI} {a b c n : ByteArray} {i : Nat} (h : [a, b, c][i]? = some n) (hn : hasR q n = false) : (hasR q a && (hasR q b && hasR q c)) = false := by
 match i, h with
 | 0, h => simp at h; subst h; rw [hn]; rfl
 | 1, h => simp at h; subst h; rw [hn]; simp
 | 2, h => simp at h; subst h; rw [hn]; simp
theorem relNames_any {w : World} {R : Nat} {A : Option Addr} {c : Nat} {l : List TypA} {t : TypA} {r : RelA} (h : SchA w R A c l) (ht : t.ok w R) (hr : r.ok w R) :
 Calls Tryz.prog 128 #[.agg #[.slice A l.length c], .agg #[.string t.name, .slice t.A t.rels.length t.c], .agg #[.string r.name, .string r.view, .string r.edit, .string r.check, .slice r.As r.subs.length r.cs, .slice r.Ao r.ops.length r.co]] w fun e w' =>
  e = .returned (.int .i64 (namedE (l.map TypA.says) t.says r.says : Nat)) ∧ Below w.heap.size w w' := by
 have hls : (r.subs.length : Int) ≤ 9223372036854775807 := by have := hr.subs.cap; have := hr.subs.capm; simp only [maxLen] at this; omega
 have hlo : (r.ops.length : Int) ≤ 9223372036854775807 := by have := hr.ops.cap; have := hr.ops.capm; simp only [maxLen] at this; omega
 obtain ⟨As, hAs⟩ : ∃ As, r.As = As := ⟨_, rfl⟩
 obtain ⟨Ao, hAo⟩ : ∃ Ao, r.Ao = Ao := ⟨_, rfl⟩
 rw [hAs, hAo]
 have hNE : Hid (namedE (l.map TypA.says) t.says r.says = if (hasR t.says r.view && (hasR t.says r.edit && hasR t.says r.check)) = false then 31 else if subsE (l.map TypA.says) [] r.subs ≠ 0 then subsE (l.map TypA.says) [] r.subs else if r.ops.all (opOk (l.map TypA.says) t.says) = false then 31 else 0) := Lib.hid rfl
 generalize namedE (l.map TypA.says) t.says r.says = NE at *
 have hb0 := ((bnew w (.cells #[.slice A l.length c] 92)).alloc (size_alloc (Nat.le_refl _)) (.cells #[.string t.name, .slice t.A t.rels.length t.c] 146))
 have hb1 := hb0.alloc hb0.size (.cells #[.string r.name, .string r.view, .string r.edit, .string r.check, .slice As r.subs.length r.cs, .slice Ao r.ops.length r.co] 149)
 have d0 := ((Bk.new w #[.slice A l.length c] 92).alloc (.cells #[.string t.name, .slice t.A t.rels.length t.c] 146)).alloc (.cells #[.string r.name, .string r.view, .string r.edit, .string r.check, .slice As r.subs.length r.cs, .slice Ao r.ops.length r.co] 149)
 have d1 := (Bk.new2 w (.cells #[.slice A l.length c] 92) #[.string t.name, .slice t.A t.rels.length t.c] 146).alloc (.cells #[.string r.name, .string r.view, .string r.edit, .string r.check, .slice As r.subs.length r.cs, .slice Ao r.ops.length r.co] 149)
 have d2 := Bk.new2 (w.alloc (.cells #[.slice A l.length c] 92)) (.cells #[.string t.name, .slice t.A t.rels.length t.c] 146) #[.string r.name, .string r.view, .string r.edit, .string r.check, .slice As r.subs.length r.cs, .slice Ao r.ops.length r.co] 149
 rw [show (w.alloc (.cells #[.slice A l.length c] 92)).heap.size + 1 = w.heap.size + 1 + 1 by simp] at d2
 have hz1 : ((((w.alloc (.cells #[.slice A l.length c] 92)).alloc (.cells #[.string t.name, .slice t.A t.rels.length t.c] 146)).alloc (.cells #[.string r.name, .string r.view, .string r.edit, .string r.check, .slice As r.subs.length r.cs, .slice Ao r.ops.length r.co] 149))).heap.size = w.heap.size + 1 + 1 + 1 := by simp
 go_enter Tryz.func128, Tryz.ntmps128
 go_upto_region 1 with (fail)
 generalize ((w.alloc (.cells #[.slice A l.length c] 92)).alloc (.cells #[.string t.name, .slice t.A t.rels.length t.c] 146)).alloc (.cells #[.string r.name, .string r.view, .string r.edit, .string r.check, .slice As r.subs.length r.cs, .slice Ao r.ops.length r.co] 149) = w1 at *
 obtain ⟨x0, x1, x2, x3, x4, x5⟩ := d2.c6
 have xl := d2.lt
 clear hb0
 go_wp2_with fail
 replace d0 := d0.alloc (.cells #[.string r.view, .string r.edit, .string r.check] 9)
 replace d1 := d1.alloc (.cells #[.string r.view, .string r.edit, .string r.check] 9)
 replace d2 := d2.alloc (.cells #[.string r.view, .string r.edit, .string r.check] 9)
 have d3 := Bk.new w1 #[.string r.view, .string r.edit, .string r.check] 9
 have hb2 := hb1.alloc hb1.size (.cells #[.string r.view, .string r.edit, .string r.check] 9)
 rw [hz1] at d3
 have ht2 := ht.up hb2
 have h2 := h.up hb2
 have hr2 := hr.up hb2
 clear hb1 x0 x1 x2 x3 x4 x5 xl h ht hr
 generalize w1.alloc (.cells #[.string r.view, .string r.edit, .string r.check] 9) = w2 at *
 clear hz1
 go_loopw [21] (fun vi wx => ∃ i : Nat, vi = .int .i64 i ∧ i ≤ 3 ∧ (∀ n ∈ [r.view, r.edit, r.check].take i, hasR t.says n = true) ∧ Below w2.heap.size w2 wx) (fun vi _ => 3 - (intOf vi).toNat)
 case atStart => exact ⟨0, rfl, Nat.zero_le _, fun n hn => (by simp at hn), Below.refl _ _⟩
 case round =>
  obtain ⟨i, rfl, hi, hn, hbx⟩ := hrel
  by_cases hil : i < 3
  · obtain ⟨n, hni⟩ : ∃ n, [r.view, r.edit, r.check][i]? = some n := ⟨_, List.getElem?_eq_getElem hil⟩
    have hdi : (i : Int) < 3 := by omega
    have g0 : wr.cell? ⟨w.heap.size + 1 + 1 + 1, i, none⟩ = some (.string n) := by
     rw [(d3.below hbx).cell i]
     match i, hil with
     | 0, _ => simpa using hni
     | 1, _ => simpa using hni
     | 2, _ => simpa using hni
    have e1 := d1.below hbx
    obtain ⟨y0, y1⟩ := e1.c2
    have yl := e1.lt
    have gl := (d3.below hbx).lt
    have hc := hasRel_any (ht2.up hbx) n
    cases hd : hasR t.says n with
    | false =>
     rw [hd] at hc
     go_wp2_with (with_reducible refine hc.mono ?_; rintro e w3 ⟨rfl, hb3⟩)
     go_ret
     refine ⟨?_, hb2.trans ((hbx.trans (hb3.mono hbx.size)).mono hb2.size)⟩
     have : (hasR t.says r.view && (hasR t.says r.edit && hasR t.says r.check)) = false := names_not hni hd
     rw [hNE.out, if_pos this]
     rfl
    | true =>
     rw [hd] at hc
     go_wp2_with (with_reducible refine hc.mono ?_; rintro e w3 ⟨rfl, hb3⟩)
     refine ⟨⟨i + 1, by go_num, by omega, fun m hm => ?_, bthen hbx hbx.size hb3⟩, ?_⟩
     · rw [take_snoc hni] at hm
       rcases List.mem_append.1 hm with hm | hm
       · exact hn m hm
       · simp at hm
         subst hm
         exact hd
     · simp [intOf]; omega
  · obtain rfl : i = 3 := by omega
    have e2 := d2.below hbx
    obtain ⟨x0, x1, x2, x3, x4, x5⟩ := e2.c6
    have xl := e2.lt
    have hA : ¬ (hasR t.says r.view && (hasR t.says r.edit && hasR t.says r.check)) = false := by
     rw [hn r.view (by simp), hn r.edit (by simp), hn r.check (by simp)]
     decide
    replace hNE : Hid (NE = if subsE (l.map TypA.says) [] r.subs ≠ 0 then subsE (l.map TypA.says) [] r.subs else if r.ops.all (opOk (l.map TypA.says) t.says) = false then 31 else 0) := Lib.hid (by rw [hNE.out, if_neg hA])
    clear hA hn d3
    go_wp2_with fail
    clear x0 x1 x2 x3 x4 x5 xl
    have hb4 := bthen hb2 hb2.size hbx
    have d0' := d0.below hbx
    have d1' := d1.below hbx
    have d2' := d2.below hbx
    have ht4 := ht2.up hbx
    have h4 := h2.up hbx
    have hr4 := hr2.up hbx
    clear hb2 d0 d1 d2 ht2 h2 hr2
    generalize wr = w4 at *
    clear hbx
    simp only [show ((3 : Nat) : Int) = 3 from rfl]
    go_loopw [33] (fun vi wx => ∃ i : Nat, vi = .int .i64 i ∧ i ≤ r.subs.length ∧ Hid (subsE (l.map TypA.says) [] r.subs = subsE (l.map TypA.says) (r.subs.take i) (r.subs.drop i)) ∧ Below w4.heap.size w4 wx) (fun vi _ => r.subs.length - (intOf vi).toNat)
    case atStart => exact ⟨0, rfl, Nat.zero_le _, Lib.hid rfl, Below.refl _ _⟩
    case round =>
     obtain ⟨j, rfl, hj, hE, hbx⟩ := hrel
     by_cases hjl : j < r.subs.length
     · have hdj : (j : Int) < (r.subs.length : Nat) := by omega
       obtain ⟨s, hs⟩ : ∃ s, r.subs[j]? = some s := ⟨r.subs[j], List.getElem?_eq_getElem hjl⟩
       obtain ⟨g, o, eA, g0, g1, _, _⟩ := (hr4.up hbx).sub hs
       have lg := World.block_lt_of_cell? _ _ g0
       dsimp only at lg
       rw [hAs] at eA
       subst eA
       go_upto_region 10 with (fail)
       have hbs := bnew wr (.cells #[.string s.1, .string s.2] 126)
       have dS := Bk.new wr #[.string s.1, .string s.2] 126
       have hbx2 := bthen hbx hbx.size hbs
       clear hbs
       generalize wr.alloc (.cells #[.string s.1, .string s.2] 126) = w5 at *
       obtain ⟨s0, s1⟩ := dS.c2
       have sl := dS.lt
       have e0 := d0'.below hbx2
       have q0 := e0.c1
       have ql := e0.lt
       have hc := isThere_any (h4.up hbx2) s
       have hEs := subsE_at (l := l.map TypA.says) hs
       cases hd : subOk (l.map TypA.says) s with
       | false =>
        rw [hd] at hc
        rw [if_pos hd] at hEs
        go_wp2_with (with_reducible refine hc.mono ?_; rintro e w6 ⟨rfl, hb6⟩)
        go_ret
        refine ⟨?_, bthen hb4 hb4.size (bthen hbx2 hbx2.size hb6)⟩
        rw [hNE.out, hE.out, hEs, if_pos (by decide)]
        rfl
       | true =>
        rw [hd] at hc
        rw [if_neg (by rw [hd]; decide)] at hEs
        go_wp2_with (with_reducible refine hc.mono ?_; rintro e w6 ⟨rfl, hb6⟩)
        have hbx6 := bthen hbx2 hbx2.size hb6
        have dS6 := dS.below hb6
        clear s0 s1 sl q0 ql e0 dS
        obtain ⟨s0, s1⟩ := dS6.c2
        have sl := dS6.lt
        have e2 := d2'.below hbx6
        obtain ⟨x0, x1, x2, x3, x4, x5⟩ := e2.c6
        have xl := e2.lt
        have hcap := hr4.subs.cap
        have hjc : (j : Int) ≤ (r.cs : Nat) := by omega
        have hbd : Below w6.heap.size w6 w6.drew := ⟨rfl, rfl, rfl, Nat.le_refl _, fun _ _ => rfl⟩
        have hbx7 := bthen hbx6 hbx6.size hbd
        have hcn := contains_any (((SubsA.mk hr4.subs).up hbx7).pre (Nat.le_of_lt hjl)) s
        rw [hAs, show (r.subs.take j).length = j by rw [List.length_take]; omega] at hcn
        go_still_tail 5, (by kernel_rfl)
        change wpList _ _ _ _ _ (World.drew _)
        cases hcb : (r.subs.take j).any fun y => decide (y = s) with
        | true =>
         rw [hcb] at hcn
         rw [if_pos hcb] at hEs
         go_wp2_with (with_reducible refine hcn.mono ?_; rintro e w8 ⟨rfl, hb8⟩)
         go_ret
         refine ⟨?_, bthen hb4 hb4.size (bthen hbx7 hbx7.size hb8)⟩
         rw [hNE.out, hE.out, hEs, if_pos (by decide)]
         rfl
        | false =>
         rw [hcb] at hcn
         rw [if_neg (by rw [hcb]; decide)] at hEs
         go_wp2_with (with_reducible refine hcn.mono ?_; rintro e w8 ⟨rfl, hb8⟩)
         refine ⟨⟨j + 1, by go_num, by omega, Lib.hid (by rw [hE.out, hEs]), bthen hbx7 hbx7.size hb8⟩, ?_⟩
         simp [intOf]; omega
     · obtain rfl : j = r.subs.length := by omega
       have hE0 : subsE (l.map TypA.says) [] r.subs = 0 := by
        rw [hE.out, List.take_length, List.drop_length]
        rfl
       replace hNE : Hid (NE = if r.ops.all (opOk (l.map TypA.says) t.says) = false then 31 else 0) := Lib.hid (by rw [hNE.out, hE0, if_neg (by decide)])
       clear hE0 hE
       have e2 := d2'.below hbx
       obtain ⟨x0, x1, x2, x3, x4, x5⟩ := e2.c6
       have xl := e2.lt
       go_wp2_with fail
       clear x0 x1 x2 x3 x4 x5 xl e2
       have hb5 := bthen hb4 hb4.size hbx
       have d0'' := d0'.below hbx
       have d1'' := d1'.below hbx
       have ht5 := ht4.up hbx
       have h5 := h4.up hbx
       have hr5 := hr4.up hbx
       clear hb4 d0' d1' d2' ht4 h4 hr4
       generalize wr = w5 at *
       clear hbx
       go_loopw [52] (fun vi wx => ∃ i : Nat, vi = .int .i64 i ∧ i ≤ r.ops.length ∧ (∀ o ∈ r.ops.take i, opOk (l.map TypA.says) t.says o = true) ∧ Below w5.heap.size w5 wx) (fun vi _ => r.ops.length - (intOf vi).toNat)
       case atStart => exact ⟨0, rfl, Nat.zero_le _, fun o ho => (by simp at ho), Below.refl _ _⟩
       case round =>
        obtain ⟨k, rfl, hk, hE, hbx⟩ := hrel
        by_cases hkl : k < r.ops.length
        · have hdk : (k : Int) < (r.ops.length : Nat) := by omega
          obtain ⟨q, hq⟩ : ∃ q, r.ops[k]? = some q := ⟨r.ops[k], List.getElem?_eq_getElem hkl⟩
          obtain ⟨g, o, eA, g0, g1, g2, _, _, _⟩ := (hr5.up hbx).op hq
          have lg := World.block_lt_of_cell? _ _ g0
          dsimp only at lg
          rw [hAo] at eA
          subst eA
          go_upto_region 18 with (fail)
          have hbs := bnew wr (.cells #[.int .i64 q.1, .string q.2.1, .string q.2.2] 166)
          have dS := Bk.new wr #[.int .i64 q.1, .string q.2.1, .string q.2.2] 166
          have hbx2 := bthen hbx hbx.size hbs
          clear hbs
          generalize wr.alloc (.cells #[.int .i64 q.1, .string q.2.1, .string q.2.2] 166) = w6 at *
          have s0 : w6.cell? ⟨wr.heap.size, 0, none⟩ = some (.int .i64 q.1) := dS.cell 0
          have s1 : w6.cell? ⟨wr.heap.size, 1, none⟩ = some (.string q.2.1) := dS.cell 1
          have s2 : w6.cell? ⟨wr.heap.size, 2, none⟩ = some (.string q.2.2) := dS.cell 2
          have sl := dS.lt
          have e0 := d0''.below hbx2
          have q0 := e0.c1
          have ql := e0.lt
          have e1 := d1''.below hbx2
          obtain ⟨y0, y1⟩ := e1.c2
          have yl := e1.lt
          have hc := opHolds_any q (h5.up hbx2) (ht5.up hbx2)
          cases hd : opOk (l.map TypA.says) t.says q with
          | false =>
           rw [hd] at hc
           go_wp2_with (with_reducible refine hc.mono ?_; rintro e w7 ⟨rfl, hb7⟩)
           go_ret
           refine ⟨?_, bthen hb5 hb5.size (bthen hbx2 hbx2.size hb7)⟩
           rw [hNE.out, if_pos (List.all_eq_false.2 ⟨q, List.mem_of_getElem? hq, by rw [hd]; decide⟩)]
           rfl
          | true =>
           rw [hd] at hc
           go_wp2_with (with_reducible refine hc.mono ?_; rintro e w7 ⟨rfl, hb7⟩)
           refine ⟨⟨k + 1, by go_num, by omega, fun o ho => ?_, bthen hbx2 hbx2.size hb7⟩, ?_⟩
           · rw [take_snoc hq] at ho
             rcases List.mem_append.1 ho with ho | ho
             · exact hE o ho
             · simp at ho
               subst ho
               exact hd
           · simp [intOf]; omega
        · obtain rfl : k = r.ops.length := by omega
          have hdk : ¬ ((r.ops.length : Int) < (r.ops.length : Nat)) := by omega
          rw [List.take_length] at hE
          go_wp2
          go_ret
          refine ⟨?_, bthen hb5 hb5.size hbx⟩
          rw [hNE.out, if_neg (by rw [List.all_eq_true.2 hE]; decide)]
          rfl
theorem find_any_some {α : Type} (p : α → Bool) : ∀ l : List α, (l.find? p).isSome = l.any p
 | [] => rfl
 | x :: r => by
  rw [List.find?_cons, List.any_cons]
  cases h : p x with
  | true => rfl
  | false => exact find_any_some p r
theorem SchA.pre {w : World} {R : Nat} {A : Option Addr} {c : Nat} {l : List TypA} (h : SchA w R A c l) {i : Nat} (hi : i ≤ l.length) : SchA w R A c (l.take i) := by
 have e : (l.take i).length = i := by rw [List.length_take]; omega
 refine ⟨?_, ?_, fun a ha => h.each a (List.mem_of_mem_take ha)⟩
 · rw [e, flat_take TypA.cells (sz := 2) (fun _ => rfl)]
   exact h.rows.pre hi
 · have := h.few
   rw [e]
   exact Nat.le_trans (Nat.mul_le_mul_right _ hi) this
theorem TypA.ok.pre {w : World} {R : Nat} {t : TypA} (h : t.ok w R) {i : Nat} (hi : i ≤ t.rels.length) : TypA.ok w R ⟨⟨#[]⟩, t.A, t.c, t.rels.take i⟩ := by
 have e : (t.rels.take i).length = i := by rw [List.length_take]; omega
 refine ⟨Nat.zero_le _, ?_, ?_, fun a ha => h.relz a (List.mem_of_mem_take ha)⟩
 · show Rd w w.heap.size 6 t.A (t.rels.take i).length t.c _
   rw [e, flat_take RelA.cells (sz := 6) (fun _ => rfl)]
   exact h.rels.pre hi
 · have := h.reln
   show (t.rels.take i).length * 112 ≤ R
   rw [e]
   exact Nat.le_trans (Nat.mul_le_mul_right _ hi) this
theorem relsE_at {A : Option Addr} {c : Nat} {t : TypI} {q : List RelA} {j : Nat} {r : RelA} (hr : q[j]? = some r) :
 relsE t ((q.take j).map RelA.says) ((q.drop j).map RelA.says) = if reE ⟨⟨#[]⟩, A, c, q.take j⟩ r ≠ 0 then (reE ⟨⟨#[]⟩, A, c, q.take j⟩ r, pathS t r.says) else relsE t ((q.take (j + 1)).map RelA.says) ((q.drop (j + 1)).map RelA.says) := by
 rw [List.drop_eq_getElem_cons (List.getElem?_eq_some_iff.1 hr).1, (List.getElem?_eq_some_iff.1 hr).2, take_snoc hr, List.map_cons, List.map_append]
 have e : ((q.take j).map RelA.says).any (fun x => decide (x.name = r.says.name)) = (firstRA ⟨⟨#[]⟩, A, c, q.take j⟩ r.name).isSome := by
  unfold firstRA
  rw [find_any_some, List.any_map]
  rfl
 have eo : r.says.ops = r.ops := rfl
 unfold reE
 rw [relsE, e, eo]
 by_cases h1 : (firstRA ⟨⟨#[]⟩, A, c, q.take j⟩ r.name).isSome = true
 · rw [if_pos h1, if_pos h1, if_pos (by decide)]
 · rw [if_neg h1, if_neg h1]
   by_cases h2 : 16 < r.ops.length
   · rw [if_pos h2, if_pos h2, if_pos (by decide)]
   · rw [if_neg h2, if_neg h2, if_neg (by decide)]
     rfl
theorem typsE_at {l : List TypA} {i : Nat} {t : TypA} (ht : l[i]? = some t) :
 typsE ((l.take i).map TypA.says) ((l.drop i).map TypA.says) = if tyE (l.take i) t ≠ 0 then (tyE (l.take i) t, t.name) else if (relsE t.says [] (t.rels.map RelA.says)).1 ≠ 0 then relsE t.says [] (t.rels.map RelA.says) else typsE ((l.take (i + 1)).map TypA.says) ((l.drop (i + 1)).map TypA.says) := by
 rw [List.drop_eq_getElem_cons (List.getElem?_eq_some_iff.1 ht).1, (List.getElem?_eq_some_iff.1 ht).2, take_snoc ht, List.map_cons, List.map_append]
 have e : ((l.take i).map TypA.says).any (fun x => decide (x.name = t.says.name)) = (firstA (l.take i) t.name).isSome := by
  unfold firstA
  rw [find_any_some, List.any_map]
  rfl
 have eo : t.says.rels = t.rels.map RelA.says := rfl
 have el : (t.rels.map RelA.says).length = t.rels.length := List.length_map ..
 unfold tyE
 rw [typsE, e, eo, el]
 by_cases h1 : (firstA (l.take i) t.name).isSome = true
 · rw [if_pos h1, if_pos h1, if_pos (by decide)]
   rfl
 · rw [if_neg h1, if_neg h1]
   by_cases h2 : 12 < t.rels.length
   · rw [if_pos h2, if_pos h2, if_pos (by decide)]
     rfl
   · rw [if_neg h2, if_neg h2, if_neg (show ¬ ((0 : Nat) ≠ 0) by decide)]
     rfl
theorem namesRE_at {l : List TypI} {t : TypI} {q : List RelA} {j : Nat} {r : RelA} (hr : q[j]? = some r) :
 namesRE l t ((q.drop j).map RelA.says) = if namedE l t r.says ≠ 0 then (namedE l t r.says, pathS t r.says) else namesRE l t ((q.drop (j + 1)).map RelA.says) := by
 rw [List.drop_eq_getElem_cons (List.getElem?_eq_some_iff.1 hr).1, (List.getElem?_eq_some_iff.1 hr).2, List.map_cons]
 rfl
theorem namesE_at {L : List TypI} {l : List TypA} {i : Nat} {t : TypA} (ht : l[i]? = some t) :
 namesE L ((l.drop i).map TypA.says) = if (namesRE L t.says (t.rels.map RelA.says)).1 ≠ 0 then namesRE L t.says (t.rels.map RelA.says) else namesE L ((l.drop (i + 1)).map TypA.says) := by
 rw [List.drop_eq_getElem_cons (List.getElem?_eq_some_iff.1 ht).1, (List.getElem?_eq_some_iff.1 ht).2, List.map_cons]
 rfl
theorem partsFault_any {w : World} {R : Nat} {A : Option Addr} {c : Nat} {l : List TypA} (h : SchA w R A c l) (hR : R ≤ 140737488351232) :
 Calls Tryz.prog 80 #[.agg #[.slice A l.length c]] w fun e w' =>
  e = .returned (.tuple #[.int .i64 ((typsE [] (l.map TypA.says)).1 : Nat), .string (typsE [] (l.map TypA.says)).2]) ∧ Below w.heap.size w w' := by
 have hll : (l.length : Int) ≤ 9223372036854775807 := by have := h.rows.cap; have := h.rows.capm; simp only [maxLen] at this; omega
 have hcap := h.rows.cap
 have hNE : Hid (typsE [] (l.map TypA.says) = typsE ((l.take 0).map TypA.says) ((l.drop 0).map TypA.says)) := Lib.hid rfl
 generalize typsE [] (l.map TypA.says) = NE at *
 have hb0 := bnew w (.cells #[.slice A l.length c] 92)
 have d0 := Bk.new w #[.slice A l.length c] 92
 have h0 := h.up hb0
 go_enter Tryz.func80, Tryz.ntmps80
 go_upto_region 1 with (fail)
 clear h
 generalize w.alloc (.cells #[.slice A l.length c] 92) = w1 at *
 have x0 := d0.c1
 have xl := d0.lt
 go_wp2_with fail
 go_step3
 go_wp2_with fail
 go_step3
 go_wp2_with fail
 go_loopw [2, 3, 11] (fun ve va vi wx => ve = .int .i64 0 ∧ va = .string ⟨#[]⟩ ∧ ∃ i : Nat, vi = .int .i64 i ∧ i ≤ l.length ∧ Hid (NE = typsE ((l.take i).map TypA.says) ((l.drop i).map TypA.says)) ∧ Below w1.heap.size w1 wx) (fun _ _ vi _ => l.length - (intOf vi).toNat)
 case atStart => exact ⟨rfl, rfl, 0, rfl, Nat.zero_le _, hNE, Below.refl _ _⟩
 case round =>
  clear hNE x0 xl
  obtain ⟨rfl, rfl, i, rfl, hi, hNE, hbx⟩ := hrel
  by_cases hil : i < l.length
  · have hdi : (i : Int) < (l.length : Nat) := by omega
    have hic : (i : Int) ≤ (c : Nat) := by omega
    obtain ⟨t, ht⟩ : ∃ t, l[i]? = some t := ⟨l[i], List.getElem?_eq_getElem hil⟩
    obtain ⟨g, o, rfl, g0, g1, hk⟩ := (h0.up hbx).get ht
    have lg := World.block_lt_of_cell? _ _ g0
    dsimp only at lg
    go_upto_region 4 with (fail)
    have hbs := bnew wr (.cells #[.string t.name, .slice t.A t.rels.length t.c] 146)
    have dT := Bk.new wr #[.string t.name, .slice t.A t.rels.length t.c] 146
    have hbx2 := bthen hbx hbx.size hbs
    have hk2 := hk.up hbs
    clear hbs hk
    generalize wr.alloc (.cells #[.string t.name, .slice t.A t.rels.length t.c] 146) = w2 at *
    obtain ⟨t0, t1⟩ := dT.c2
    have tl := dT.lt
    have e0 := d0.below hbx2
    have x0 := e0.c1
    have xl := e0.lt
    have hbd : Below w2.heap.size w2 w2.drew := ⟨rfl, rfl, rfl, Nat.le_refl _, fun _ _ => rfl⟩
    have hbx3 := bthen hbx2 hbx2.size hbd
    have hcn := typeFault_any (t := t) ((h0.up hbx3).pre hi)
    rw [show (l.take i).length = i by rw [List.length_take]; omega] at hcn
    have hS := typsE_at ht
    go_still_tail 5, (by kernel_rfl)
    change wpList _ _ _ _ _ (World.drew _)
    generalize tyE (l.take i) t = k at *
    by_cases hk0 : k = 0
    · subst hk0
      rw [if_neg (by decide)] at hS
      simp only [show ((0 : Nat) : Int) = 0 from rfl] at hcn
      go_wp2_with ((with_reducible refine hcn.mono ?_); rintro e w4 ⟨rfl, hb4⟩; have dT4 := (dT.below hbd).below hb4; have t4 := dT4.c2.2; have tl4 := dT4.lt)
      have hbx4 := bthen hbx3 hbx3.size hb4
      have hk4 := (hk2.up hbd).up hb4
      have hlr : (t.rels.length : Int) ≤ 9223372036854775807 := by have := hk2.rels.cap; have := hk2.rels.capm; simp only [maxLen] at this; omega
      have hrc := hk2.rels.cap
      have hRE : Hid (relsE t.says [] (t.rels.map RelA.says) = relsE t.says ((t.rels.take 0).map RelA.says) ((t.rels.drop 0).map RelA.says)) := Lib.hid rfl
      generalize relsE t.says [] (t.rels.map RelA.says) = RE at *
      obtain ⟨tA, htA⟩ : ∃ tA, t.A = tA := ⟨_, rfl⟩
      rw [htA] at dT4 t4 ⊢
      clear hbx hbx2 hbx3 hb4 hbd hk2 dT t0 t1 tl g0 g1 lg x0 xl e0 hcn
      generalize wr.heap.size = B5 at *
      go_loopw [2, 3, 29] (fun ve va vi wx => ve = .int .i64 0 ∧ va = .string ⟨#[]⟩ ∧ ∃ i : Nat, vi = .int .i64 i ∧ i ≤ t.rels.length ∧ Hid (RE = relsE t.says ((t.rels.take i).map RelA.says) ((t.rels.drop i).map RelA.says)) ∧ Below w4.heap.size w4 wx) (fun _ _ vi _ => t.rels.length - (intOf vi).toNat)
      case atStart => exact ⟨rfl, rfl, 0, rfl, Nat.zero_le _, hRE, Below.refl _ _⟩
      case round =>
       clear hRE
       obtain ⟨rfl, rfl, j, rfl, hj, hRE, hby⟩ := hrel
       by_cases hjl : j < t.rels.length
       · have hdj : (j : Int) < (t.rels.length : Nat) := by omega
         have hjc : (j : Int) ≤ (t.c : Nat) := by omega
         obtain ⟨r, hr⟩ : ∃ r, t.rels[j]? = some r := ⟨t.rels[j], List.getElem?_eq_getElem hjl⟩
         obtain ⟨gr, o', eA, r0, r1, r2, r3, r4, r5, hkr⟩ := (hk4.up hby).get hr
         have lgr := World.block_lt_of_cell? _ _ r0
         dsimp only at lgr
         rw [htA] at eA
         subst eA
         go_upto_region 10 with (fail)
         have hbs := bnew wr (.cells #[.string r.name, .string r.view, .string r.edit, .string r.check, .slice r.As r.subs.length r.cs, .slice r.Ao r.ops.length r.co] 149)
         have dR := Bk.new wr #[.string r.name, .string r.view, .string r.edit, .string r.check, .slice r.As r.subs.length r.cs, .slice r.Ao r.ops.length r.co] 149
         have hby2 := bthen hby hby.size hbs
         clear hbs hkr hby r0 r1 r2 r3 r4 r5 lgr
         generalize wr.alloc (.cells #[.string r.name, .string r.view, .string r.edit, .string r.check, .slice r.As r.subs.length r.cs, .slice r.Ao r.ops.length r.co] 149) = w5 at *
         generalize wr.heap.size = B7 at *
         obtain ⟨r0, r1, r2, r3, r4, r5⟩ := dR.c6
         have rl := dR.lt
         have e4 := dT4.below hby2
         obtain ⟨t0, t1⟩ := e4.c2
         have tl := e4.lt
         have hbd : Below w5.heap.size w5 w5.drew := ⟨rfl, rfl, rfl, Nat.le_refl _, fun _ _ => rfl⟩
         have hby3 := bthen hby2 hby2.size hbd
         have hcn := relFault_any (t := r) ((hk4.up hby3).pre hj)
         rw [htA, show (t.rels.take j).length = j by rw [List.length_take]; omega] at hcn
         have hS2 := relsE_at (A := some ⟨gr, o', none⟩) (c := t.c) (t := t.says) hr
         go_still_tail 5, (by kernel_rfl)
         change wpList _ _ _ _ _ (World.drew _)
         generalize reE ⟨⟨#[]⟩, some ⟨gr, o', none⟩, t.c, t.rels.take j⟩ r = k at *
         by_cases hk0 : k = 0
         · subst hk0
           rw [if_neg (by decide)] at hS2
           simp only [show ((0 : Nat) : Int) = 0 from rfl] at hcn
           go_wp2_with ((with_reducible refine hcn.mono ?_); rintro e w6 ⟨rfl, hb6⟩)
           refine ⟨⟨rfl, rfl, j + 1, by go_num, by omega, Lib.hid (by rw [hRE.out, hS2]), bthen hby3 hby3.size hb6⟩, ?_⟩
           simp [intOf]; omega
         · have hki : ¬ ((k : Nat) : Int) = 0 := by omega
           rw [if_pos hk0] at hS2
           go_wp2_with ((with_reducible refine hcn.mono ?_); rintro e w6 ⟨rfl, hb6⟩; have dR6 := (dR.below hbd).below hb6; have dT6 := (e4.below hbd).below hb6; have p4 := dT6.c2.1; have p5 := dT6.c2.2; have pl := dT6.lt; obtain ⟨s0, s1, s2, s3, s4, s5⟩ := dR6.c6; have sl := dR6.lt)
           have hpc := path_any (w := w6) (q := t) (r := r) (Nat.le_trans hk4.name hR) (Nat.le_trans (hk4.relz r (List.mem_of_getElem? hr)).name hR)
           rw [htA] at hpc
           refine hpc.mono ?_
           rintro e w8 ⟨rfl, hb8⟩
           go_wp2_with fail
           rw [Exit.noGoto_ret]
           refine bodyPost_ret (v := .tuple #[.int .i64 (k : Nat), .string (pathS t.says r.says)]) (by simp [results, Tryz.results80, go_sem]; try rfl) rfl ?_
           refine ⟨?_, bthen hb0 hb0.size (bthen hbx4 hbx4.size (bthen hby3 hby3.size (bthen hb6 hb6.size hb8)))⟩
           have hne : RE.1 ≠ 0 := by rw [hRE.out, hS2]; exact hk0
           rw [hNE.out, hS, if_pos hne, hRE.out, hS2]
       · obtain rfl : j = t.rels.length := by omega
         have hRE0 : RE = (0, ⟨#[]⟩) := by
          rw [hRE.out, List.take_length, List.drop_length]
          rfl
         subst hRE0
         rw [if_neg (show ¬ ((0, ⟨#[]⟩) : Nat × ByteArray).1 ≠ 0 by decide)] at hS
         replace hS := Lib.hid hS
         go_wp2
         refine ⟨⟨rfl, rfl, i + 1, by go_num, by omega, Lib.hid (by rw [hNE.out, hS.out]), bthen hbx4 hbx4.size hby⟩, ?_⟩
         simp [intOf]; omega
    · have hki : ¬ ((k : Nat) : Int) = 0 := by omega
      rw [if_pos hk0] at hS
      go_wp2_with ((with_reducible refine hcn.mono ?_); rintro e w4 ⟨rfl, hb4⟩; have dT4 := (dT.below hbd).below hb4; have t4 := dT4.c2.1; have tl4 := dT4.lt)
      rw [Exit.noGoto_ret]
      refine bodyPost_ret (v := .tuple #[.int .i64 (k : Nat), .string t.name]) (by simp [results, Tryz.results80, go_sem]; try rfl) rfl ?_
      refine ⟨?_, bthen hb0 hb0.size (bthen hbx3 hbx3.size hb4)⟩
      rw [hNE.out, hS]
  · have hdi : ¬ (i : Int) < (l.length : Nat) := by omega
    obtain rfl : i = l.length := by omega
    go_wp2
    refine bodyPost_ret (v := .tuple #[.int .i64 0, .string ⟨#[]⟩]) (by simp [results, Tryz.results80, go_sem]; try rfl) rfl ?_
    refine ⟨?_, bthen hb0 hb0.size hbx⟩
    rw [hNE.out, List.take_length, List.drop_length]
    rfl
theorem namesFault_any {w : World} {R : Nat} {A : Option Addr} {c : Nat} {l : List TypA} (h : SchA w R A c l) (hR : R ≤ 140737488351232) :
 Calls Tryz.prog 81 #[.agg #[.slice A l.length c]] w fun e w' =>
  e = .returned (.tuple #[.int .i64 ((namesE (l.map TypA.says) (l.map TypA.says)).1 : Nat), .string (namesE (l.map TypA.says) (l.map TypA.says)).2]) ∧ Below w.heap.size w w' := by
 have hll : (l.length : Int) ≤ 9223372036854775807 := by have := h.rows.cap; have := h.rows.capm; simp only [maxLen] at this; omega
 obtain ⟨L, hL⟩ : ∃ L, l.map TypA.says = L := ⟨_, rfl⟩
 have hNE : Hid (namesE L (l.map TypA.says) = namesE L ((l.drop 0).map TypA.says)) := Lib.hid rfl
 rw [show namesE (l.map TypA.says) (l.map TypA.says) = namesE L (l.map TypA.says) by rw [hL]]
 generalize namesE L (l.map TypA.says) = NE at *
 have hL := Lib.hid hL
 have hb0 := bnew w (.cells #[.slice A l.length c] 92)
 have d0 := Bk.new w #[.slice A l.length c] 92
 have h0 := h.up hb0
 go_enter Tryz.func81, Tryz.ntmps81
 go_upto_region 1 with (fail)
 clear h
 generalize w.alloc (.cells #[.slice A l.length c] 92) = w1 at *
 have x0 := d0.c1
 have xl := d0.lt
 go_wp2_with fail
 go_step3
 go_wp2_with fail
 go_step3
 go_wp2_with fail
 go_loopw [2, 3, 11] (fun ve va vi wx => ve = .int .i64 0 ∧ va = .string ⟨#[]⟩ ∧ ∃ i : Nat, vi = .int .i64 i ∧ i ≤ l.length ∧ Hid (NE = namesE L ((l.drop i).map TypA.says)) ∧ Below w1.heap.size w1 wx) (fun _ _ vi _ => l.length - (intOf vi).toNat)
 case atStart => exact ⟨rfl, rfl, 0, rfl, Nat.zero_le _, hNE, Below.refl _ _⟩
 case round =>
  clear hNE x0 xl
  obtain ⟨rfl, rfl, i, rfl, hi, hNE, hbx⟩ := hrel
  by_cases hil : i < l.length
  · have hdi : (i : Int) < (l.length : Nat) := by omega
    obtain ⟨t, ht⟩ : ∃ t, l[i]? = some t := ⟨l[i], List.getElem?_eq_getElem hil⟩
    obtain ⟨g, o, rfl, g0, g1, hk⟩ := (h0.up hbx).get ht
    have lg := World.block_lt_of_cell? _ _ g0
    dsimp only at lg
    go_upto_region 4 with (fail)
    have hbs := bnew wr (.cells #[.string t.name, .slice t.A t.rels.length t.c] 146)
    have dT := Bk.new wr #[.string t.name, .slice t.A t.rels.length t.c] 146
    have hbx2 := bthen hbx hbx.size hbs
    have hk2 := hk.up hbs
    clear hbs hk
    generalize wr.alloc (.cells #[.string t.name, .slice t.A t.rels.length t.c] 146) = w4 at *
    have d04 := d0.below hbx2
    obtain ⟨t0, t1⟩ := dT.c2
    have tl := dT.lt
    have hS := namesE_at (L := L) ht
    have hlr : (t.rels.length : Int) ≤ 9223372036854775807 := by have := hk2.rels.cap; have := hk2.rels.capm; simp only [maxLen] at this; omega
    have hRE : Hid (namesRE L t.says (t.rels.map RelA.says) = namesRE L t.says ((t.rels.drop 0).map RelA.says)) := Lib.hid rfl
    generalize namesRE L t.says (t.rels.map RelA.says) = RE at *
    obtain ⟨tA, htA⟩ : ∃ tA, t.A = tA := ⟨_, rfl⟩
    rw [htA] at dT t1 ⊢
    go_wp2_with fail
    clear hbx g0 g1 lg t0 t1 tl
    generalize wr.heap.size = B5 at *
    go_loopw [2, 3, 18] (fun ve va vi wx => ve = .int .i64 0 ∧ va = .string ⟨#[]⟩ ∧ ∃ i : Nat, vi = .int .i64 i ∧ i ≤ t.rels.length ∧ Hid (RE = namesRE L t.says ((t.rels.drop i).map RelA.says)) ∧ Below w4.heap.size w4 wx) (fun _ _ vi _ => t.rels.length - (intOf vi).toNat)
    case atStart => exact ⟨rfl, rfl, 0, rfl, Nat.zero_le _, hRE, Below.refl _ _⟩
    case round =>
     clear hRE
     obtain ⟨rfl, rfl, j, rfl, hj, hRE, hby⟩ := hrel
     by_cases hjl : j < t.rels.length
     · have hdj : (j : Int) < (t.rels.length : Nat) := by omega
       obtain ⟨r, hr⟩ : ∃ r, t.rels[j]? = some r := ⟨t.rels[j], List.getElem?_eq_getElem hjl⟩
       obtain ⟨gr, o', eA, r0, r1, r2, r3, r4, r5, hkr⟩ := (hk2.up hby).get hr
       have lgr := World.block_lt_of_cell? _ _ r0
       dsimp only at lgr
       rw [htA] at eA
       subst eA
       go_upto_region 7 with (fail)
       have hbs := bnew wr (.cells #[.string r.name, .string r.view, .string r.edit, .string r.check, .slice r.As r.subs.length r.cs, .slice r.Ao r.ops.length r.co] 149)
       have dR := Bk.new wr #[.string r.name, .string r.view, .string r.edit, .string r.check, .slice r.As r.subs.length r.cs, .slice r.Ao r.ops.length r.co] 149
       have hby2 := bthen hby hby.size hbs
       have hkr2 := hkr.up hbs
       clear hbs hkr hby r0 r1 r2 r3 r4 r5 lgr
       generalize wr.alloc (.cells #[.string r.name, .string r.view, .string r.edit, .string r.check, .slice r.As r.subs.length r.cs, .slice r.Ao r.ops.length r.co] 149) = w5 at *
       generalize wr.heap.size = B7 at *
       obtain ⟨r0, r1, r2, r3, r4, r5⟩ := dR.c6
       have rl := dR.lt
       have e4 := dT.below hby2
       obtain ⟨t0, t1⟩ := e4.c2
       have tl := e4.lt
       have e0 := d04.below hby2
       have x0 := e0.c1
       have xl := e0.lt
       have hcn := relNames_any ((h0.up hbx2).up hby2) (hk2.up hby2) hkr2
       rw [htA, hL.out] at hcn
       have hS2 := namesRE_at (l := L) (t := t.says) hr
       generalize namedE L t.says r.says = k at *
       by_cases hk0 : k = 0
       · subst hk0
         rw [if_neg (by decide)] at hS2
         replace hS2 := Lib.hid hS2
         simp only [show ((0 : Nat) : Int) = 0 from rfl] at hcn
         go_wp2_with ((with_reducible refine hcn.mono ?_); rintro e w6 ⟨rfl, hb6⟩)
         refine ⟨⟨rfl, rfl, j + 1, by go_num, by omega, Lib.hid (by rw [hRE.out, hS2.out]), bthen hby2 hby2.size hb6⟩, ?_⟩
         simp [intOf]; omega
       · have hki : ¬ ((k : Nat) : Int) = 0 := by omega
         rw [if_pos hk0] at hS2
         replace hS2 := Lib.hid hS2
         go_wp2_with ((with_reducible refine hcn.mono ?_); rintro e w6 ⟨rfl, hb6⟩; have dR6 := dR.below hb6; have dT6 := e4.below hb6; have p4 := dT6.c2.1; have p5 := dT6.c2.2; have pl := dT6.lt; obtain ⟨s0, s1, s2, s3, s4, s5⟩ := dR6.c6; have sl := dR6.lt)
         have hpc := path_any (w := w6) (q := t) (r := r) (Nat.le_trans hk2.name hR) (Nat.le_trans hkr2.name hR)
         rw [htA] at hpc
         refine hpc.mono ?_
         rintro e w8 ⟨rfl, hb8⟩
         go_wp2_with fail
         rw [Exit.noGoto_ret]
         refine bodyPost_ret (v := .tuple #[.int .i64 (k : Nat), .string (pathS t.says r.says)]) (by simp [results, Tryz.results81, go_sem]; try rfl) rfl ?_
         refine ⟨?_, bthen hb0 hb0.size (bthen hbx2 hbx2.size (bthen hby2 hby2.size (bthen hb6 hb6.size hb8)))⟩
         have hne : RE.1 ≠ 0 := by rw [hRE.out, hS2.out]; exact hk0
         rw [hNE.out, hS, if_pos hne, hRE.out, hS2.out]
     · obtain rfl : j = t.rels.length := by omega
       have hRE0 : RE = (0, ⟨#[]⟩) := by
        rw [hRE.out, List.drop_length]
        rfl
       subst hRE0
       rw [if_neg (show ¬ ((0, ⟨#[]⟩) : Nat × ByteArray).1 ≠ 0 by decide)] at hS
       replace hS := Lib.hid hS
       go_wp2
       refine ⟨⟨rfl, rfl, i + 1, by go_num, by omega, Lib.hid (by rw [hNE.out, hS.out]), bthen hbx2 hbx2.size hby⟩, ?_⟩
       simp [intOf]; omega
  · have hdi : ¬ (i : Int) < (l.length : Nat) := by omega
    obtain rfl : i = l.length := by omega
    go_wp2
    refine bodyPost_ret (v := .tuple #[.int .i64 0, .string ⟨#[]⟩]) (by simp [results, Tryz.results81, go_sem]; try rfl) rfl ?_
    refine ⟨?_, bthen hb0 hb0.size hbx⟩
    rw [hNE.out, List.drop_length]
    rfl
theorem check_any {w : World} {R : Nat} {A : Option Addr} {c : Nat} {l : List TypA} (h : SchA w R A c l) (hR : R ≤ 140737488351232) :
 Calls Tryz.prog 48 #[.agg #[.slice A l.length c]] w fun e w' =>
  e = .returned (.tuple #[.int .i64 ((checkE (l.map TypA.says)).1 : Nat), .string (checkE (l.map TypA.says)).2]) ∧ Below w.heap.size w w' := by
 have hb0 := bnew w (.cells #[.slice A l.length c] 92)
 have d0 := Bk.new w #[.slice A l.length c] 92
 have h0 := h.up hb0
 have hC : checkE (l.map TypA.says) = if 8 < l.length then (13, ⟨#[]⟩) else if (typsE [] (l.map TypA.says)).1 ≠ 0 then typsE [] (l.map TypA.says) else namesE (l.map TypA.says) (l.map TypA.says) := by
  unfold checkE
  rw [List.length_map]
 by_cases h8 : 8 < l.length
 · have hdi : (8 : Int) < (l.length : Nat) := by omega
   rw [if_pos h8] at hC
   rw [hC]
   go_enter Tryz.func48, Tryz.ntmps48
   go_wp2
   refine bodyPost_ret (v := .tuple #[.int .i64 13, .string ⟨#[]⟩]) (by simp [results, Tryz.results48, go_sem]; try rfl) rfl ?_
   exact ⟨rfl, hb0⟩
 · have hdi : ¬ (8 : Int) < (l.length : Nat) := by omega
   rw [if_neg h8] at hC
   have k1 := partsFault_any h0 hR
   generalize typsE [] (l.map TypA.says) = T at *
   by_cases hT : T.1 ≠ 0
   · rw [if_pos hT] at hC
     rw [hC]
     have hki : ¬ ((T.1 : Nat) : Int) = 0 := by omega
     clear hC
     go_enter Tryz.func48, Tryz.ntmps48
     go_wp2_with (with_reducible refine k1.mono ?_; rintro e w2 ⟨rfl, hb2⟩)
     refine bodyPost_ret (v := .tuple #[.int .i64 (T.1 : Nat), .string T.2]) (by simp [results, Tryz.results48, go_sem]; try rfl) rfl ?_
     exact ⟨rfl, bthen hb0 hb0.size hb2⟩
   · rw [if_neg hT] at hC
     rw [hC]
     have hT0 : T.1 = 0 := by omega
     rw [hT0] at k1
     simp only [show ((0 : Nat) : Int) = 0 from rfl] at k1
     clear hC hT
     go_enter Tryz.func48, Tryz.ntmps48
     go_wp2_with (with_reducible refine k1.mono ?_; rintro e w2 ⟨rfl, hb2⟩; have d2 := d0.below hb2; have x0 := d2.c1; have xl := d2.lt)
     refine (namesFault_any (h0.up hb2) hR).mono ?_
     rintro e w3 ⟨rfl, hb3⟩
     go_wp2
     refine bodyPost_ret (v := .tuple #[.int .i64 ((namesE (l.map TypA.says) (l.map TypA.says)).1 : Nat), .string (namesE (l.map TypA.says) (l.map TypA.says)).2]) (by simp [results, Tryz.results48, go_sem]; try rfl) rfl ?_
     exact ⟨rfl, bthen hb0 hb0.size (bthen hb2 hb2.size hb3)⟩
end Go.Proofs.YtahegpfdbgbioaaGreat
