/-
  The law MetricsBuilds, walked.
-/
import Derived.Test.YtmbhgeideoenhaaM9RBt
namespace Go.Proofs.Ytmbhgeideoenhaa
open Go.RowKit Go.Deep
set_option linter.unusedVariables false

theorem rbld_bad (m : Mt) (aa ab : Option Addr) (na nb ca cb : Nat) (w : World) (hM : MIn w m aa na ab nb) (hma : na ≤ 1000000) (hmb : nb ≤ 1000000) (hg : goodB m = false) :
    Calls Try.prog 17 #[.agg (mcs m (.slice aa na ca) (.slice ab nb cb))] w fun e w' => e = .returned (.tuple #[.slice none 0 0, .int .i64 90]) ∧ Below w.heap.size w w' := by
  have bw := (Below.refl w.heap.size w).alloc (Nat.le_refl _) (.cells (mcs m (.slice aa na ca) (.slice ab nb cb)) 28)
  have CG := rgood_any m aa ab na ca nb cb _ ⟨hM.up, hM.hna, hM.hnb, hM.ma, hM.mb, hM.la.below bw, hM.lb.below bw, hM.xa, hM.xb⟩ hma hmb
  rw [hg] at CG
  obtain ⟨up, sc, de, ga, b0, b1, b2, b3, lg, ad, be⟩ := m
  have HB1 := hide bw
  have CG2 := hide CG
  clear CG hM hma hmb hg bw
  simp only [mcs] at CG2 HB1 ⊢
  go_enter Try.func17, Try.ntmps17
  go_wp2_with fail
  refine CG2.out.mono ?_
  rintro e w1 ⟨rfl, h1⟩
  have H1 := hide (below_t5 HB1.out h1)
  clear h1
  go_wp2_with fail
  go_ret2
  exact ⟨rfl, H1.out⟩
/- what both Builds answer, and what is the same of them -/
def BdR (l : List Tab) (w : World) (e : Ending) (w' : World) : Prop := ∃ a n c v, e = .returned (.tuple #[.slice a n c, .int .i64 v]) ∧ l.length = n ∧ n ≤ 4 ∧ v = (if l = [] then 90 else 0) ∧ TLst w' a l ∧ Below w.heap.size w w'
theorem bdr_any (m : Mt) (aa ab : Option Addr) (na nb ca cb : Nat) (w : World) (hM : MIn w m aa na ab nb) (hma : na ≤ 1000000) (hmb : nb ≤ 1000000) :
    Calls Try.prog 16 #[.agg (mcs m (.slice aa na ca) (.slice ab nb cb))] w fun e w' => BdR (if goodB m then tabs m else []) w e w' := by
  cases hg : goodB m
  · refine (bld_bad m aa ab na nb ca cb w hM.hna hM.hnb hma hmb hM.la hM.lb hg).mono ?_
    rintro e w' ⟨rfl, hb⟩
    exact ⟨none, 0, 0, 90, rfl, rfl, by omega, rfl, Or.inl rfl, hb⟩
  · have h5 := (good_in hg).2.2.2.2.1
    have hbn : nb = na := by have := hM.hna; have := hM.hnb; omega
    subst hbn
    refine (bld_any m aa ab nb ca cb w hM.hna hM.hnb hM.la hM.lb hg).mono ?_
    rintro e w' ⟨g, rfl, hk, _, hb⟩
    exact ⟨some ⟨g, 0, none⟩, 4, 4, 0, rfl, rfl, by omega, rfl, tab_lst hM.hna hk, hb⟩
theorem rbdr_any (m : Mt) (aa ab : Option Addr) (na nb ca cb : Nat) (w : World) (hM : MIn w m aa na ab nb) (hma : na ≤ 1000000) (hmb : nb ≤ 1000000) :
    Calls Try.prog 17 #[.agg (mcs m (.slice aa na ca) (.slice ab nb cb))] w fun e w' => BdR (if goodB m then tabs m else []) w e w' := by
  cases hg : goodB m
  · refine (rbld_bad m aa ab na nb ca cb w hM hma hmb hg).mono ?_
    rintro e w' ⟨rfl, hb⟩
    exact ⟨none, 0, 0, 90, rfl, rfl, by omega, rfl, Or.inl rfl, hb⟩
  · have h5 := (good_in hg).2.2.2.2.1
    have hbn : nb = na := by have := hM.hna; have := hM.hnb; omega
    subst hbn
    have C : Calls Try.prog 17 #[.agg (mcs m (.slice aa nb ca) (.slice ab nb cb))] w fun e w' => ∃ g, e = .returned (.tuple #[.slice (some ⟨g, 0, none⟩) 4 4, .int .i64 0]) ∧ Blk w' g (tabC m nb) 46 ∧ w.heap.size ≤ g ∧ Below w.heap.size w w' := by
      cases hlg : m.lg
      · exact rbld_f m aa ab nb ca cb w hM hg hlg
      · exact rbld_t m aa ab nb ca cb w hM hg hlg
    refine C.mono ?_
    rintro e w' ⟨g, rfl, hk, _, hb⟩
    exact ⟨some ⟨g, 0, none⟩, 4, 4, 0, rfl, rfl, by omega, rfl, tab_lst hM.hna hk, hb⟩
set_option maxRecDepth 8000 in
set_option maxHeartbeats 8000000 in
theorem builds_walk (m : Mt) (aa ab : Option Addr) (na ca nb cb : Nat) (w : World) (hM : MIn w m aa na ab nb) :
    Calls Try.prog 4 #[.agg (mcs m (.slice aa na ca) (.slice ab nb cb))] w fun e w' => e = .returned (.bool true) ∧ Below w.heap.size w w' := by
  have CL := hide (fun w => large_any m aa ab na ca nb cb w)
  have CWK := hide wakes9_any
  cases hl : lrB na nb
  case true =>
    rw [hl] at CL
    obtain ⟨up, sc, de, ga, b0, b1, b2, b3, lg, ad, be⟩ := m
    have HB := hide ((Below.refl w.heap.size w).alloc (Nat.le_refl _) (.cells #[.int .i64 up, .int .i64 sc, .int .i64 de, .int .i64 ga, .int .i64 b0, .int .i64 b1, .int .i64 b2, .int .i64 b3, .bool lg, .slice aa na ca, .slice ab nb cb] 28))
    have KV := hide (Blk.new w #[.int .i64 up, .int .i64 sc, .int .i64 de, .int .i64 ga, .int .i64 b0, .int .i64 b1, .int .i64 b2, .int .i64 b3, .bool lg, .slice aa na ca, .slice ab nb cb] 28)
    clear hM hl
    simp only [mcs] at CL ⊢
    go_enter Try.func4, Try.ntmps4
    go_wp2_with fail
    generalize w.alloc (.cells #[.int .i64 up, .int .i64 sc, .int .i64 de, .int .i64 ga, .int .i64 b0, .int .i64 b1, .int .i64 b2, .int .i64 b3, .bool lg, .slice aa na ca, .slice ab nb cb] 28) = V at HB KV ⊢
    obtain ⟨x, hx⟩ : ∃ x, w.heap.size = x := ⟨_, rfl⟩
    have KV2 : Hid (Blk V x #[.int .i64 up, .int .i64 sc, .int .i64 de, .int .i64 ga, .int .i64 b0, .int .i64 b1, .int .i64 b2, .int .i64 b3, .bool lg, .slice aa na ca, .slice ab nb cb] 28) := hx ▸ KV
    rw [hx]
    have KC := hide (fun (u : World) (hu : Below V.heap.size V u) => KV2.out.below hu)
    have HV := hide (Below.refl V.heap.size V)
    have kk := KC.out _ HV.out
    clear KV KV2 hx
    have c0 := kk.cell 0
    have c1 := kk.cell 1
    have c2 := kk.cell 2
    have c3 := kk.cell 3
    have c4 := kk.cell 4
    have c5 := kk.cell 5
    have c6 := kk.cell 6
    have c7 := kk.cell 7
    have c8 := kk.cell 8
    have c9 := kk.cell 9
    have c10 := kk.cell 10
    simp at c0 c1 c2 c3 c4 c5 c6 c7 c8 c9 c10
    have xlt := kk.lt
    clear kk
    refine (CL.out _).mono ?_
    rintro e w1 ⟨rfl, hb⟩
    replace HV := hide (below_t5 HV.out hb)
    have kk := KC.out _ HV.out
    clear hb
    clear c0 c1 c2 c3 c4 c5 c6 c7 c8 c9 c10 xlt
    have c0 := kk.cell 0
    have c1 := kk.cell 1
    have c2 := kk.cell 2
    have c3 := kk.cell 3
    have c4 := kk.cell 4
    have c5 := kk.cell 5
    have c6 := kk.cell 6
    have c7 := kk.cell 7
    have c8 := kk.cell 8
    have c9 := kk.cell 9
    have c10 := kk.cell 10
    simp at c0 c1 c2 c3 c4 c5 c6 c7 c8 c9 c10
    have xlt := kk.lt
    clear kk
    go_wp2_with fail
    refine (CWK.out _).mono ?_
    rintro e w2 ⟨rfl, hb⟩
    replace HV := hide (below_t5 HV.out hb)
    clear hb
    go_wp2_with fail
    go_ret
    exact ⟨rfl, below_t5 HB.out HV.out⟩
  rw [hl] at CL
  have hna : na ≤ 5000 := by unfold lrB at hl; simp at hl; omega
  have hnb : nb ≤ 5000 := by unfold lrB at hl; simp at hl; omega
  have MA := hide (fun (v : World) (h : Below w.heap.size w v) => show MIn v m aa na ab nb from ⟨hM.up, hM.hna, hM.hnb, hM.ma, hM.mb, hM.la.below h, hM.lb.below h, hM.xa, hM.xb⟩)
  have MC1 := hide (fun (p q : Nat) (v : World) (h1 : Lst v (some ⟨p, 0, none⟩) m.ad) (h2 : Lst v (some ⟨q, 0, none⟩) m.be) => show MIn v m (some ⟨p, 0, none⟩) na (some ⟨q, 0, none⟩) nb from ⟨hM.up, hM.hna, hM.hnb, hM.ma, hM.mb, h1, h2, hM.xa, hM.xb⟩)
  have CC := hide (fun (v : World) (h : Below w.heap.size w v) => cp_any m aa ab na ca nb cb v hM.hna hM.hnb (by omega) (by omega) (hM.la.below h) (hM.lb.below h))
  have CB := hide (fun (p q cp cq : Nat) (v : World) (h1 : Lst v (some ⟨p, 0, none⟩) m.ad) (h2 : Lst v (some ⟨q, 0, none⟩) m.be) => bdr_any m (some ⟨p, 0, none⟩) (some ⟨q, 0, none⟩) na nb cp cq v (MC1.out p q v h1 h2) (by omega) (by omega))
  have CRB := hide (fun (v : World) (h : Below w.heap.size w v) => rbdr_any m aa ab na nb ca cb v (MA.out v h) (by omega) (by omega))
  have CG := hide (fun (p q cp cq : Nat) (v : World) (h1 : Lst v (some ⟨p, 0, none⟩) m.ad) (h2 : Lst v (some ⟨q, 0, none⟩) m.be) => good_any m (some ⟨p, 0, none⟩) (some ⟨q, 0, none⟩) na nb cp cq v hM.hna hM.hnb (by omega) (by omega) h1 h2)
  have CRG := hide (fun (v : World) (h : Below w.heap.size w v) => rgood_any m aa ab na ca nb cb v (MA.out v h) (by omega) (by omega))
  have CS := hide (fun (p q cp cq : Nat) (v : World) (h : Below w.heap.size w v) (h1 : Lst v (some ⟨p, 0, none⟩) m.ad) (h2 : Lst v (some ⟨q, 0, none⟩) m.be) => msame_any m (some ⟨p, 0, none⟩) aa (some ⟨q, 0, none⟩) ab na nb cp ca cq cb v hM.hna hM.hnb (by omega) (by omega) h1 (hM.la.below h) h2 (hM.lb.below h))
  generalize (if goodB m = true then tabs m else []) = TL at CB CRB
  generalize goodB m = GB at CG CRG
  obtain ⟨up, sc, de, ga, b0, b1, b2, b3, lg, ad, be⟩ := m
  have HB := hide ((Below.refl w.heap.size w).alloc (Nat.le_refl _) (.cells #[.int .i64 up, .int .i64 sc, .int .i64 de, .int .i64 ga, .int .i64 b0, .int .i64 b1, .int .i64 b2, .int .i64 b3, .bool lg, .slice aa na ca, .slice ab nb cb] 28))
  have KV := hide (Blk.new w #[.int .i64 up, .int .i64 sc, .int .i64 de, .int .i64 ga, .int .i64 b0, .int .i64 b1, .int .i64 b2, .int .i64 b3, .bool lg, .slice aa na ca, .slice ab nb cb] 28)
  clear hM hl hna hnb MA MC1
  simp only [mcs] at CL CC CB CRB CG CRG CS ⊢
  go_enter Try.func4, Try.ntmps4
  go_wp2_with fail
  generalize w.alloc (.cells #[.int .i64 up, .int .i64 sc, .int .i64 de, .int .i64 ga, .int .i64 b0, .int .i64 b1, .int .i64 b2, .int .i64 b3, .bool lg, .slice aa na ca, .slice ab nb cb] 28) = V at HB KV ⊢
  obtain ⟨x, hx⟩ : ∃ x, w.heap.size = x := ⟨_, rfl⟩
  have KV2 : Hid (Blk V x #[.int .i64 up, .int .i64 sc, .int .i64 de, .int .i64 ga, .int .i64 b0, .int .i64 b1, .int .i64 b2, .int .i64 b3, .bool lg, .slice aa na ca, .slice ab nb cb] 28) := hx ▸ KV
  rw [hx]
  have KC := hide (fun (u : World) (hu : Below V.heap.size V u) => KV2.out.below hu)
  have HV := hide (Below.refl V.heap.size V)
  have kk := KC.out _ HV.out
  clear KV KV2 hx
  have c0 := kk.cell 0
  have c1 := kk.cell 1
  have c2 := kk.cell 2
  have c3 := kk.cell 3
  have c4 := kk.cell 4
  have c5 := kk.cell 5
  have c6 := kk.cell 6
  have c7 := kk.cell 7
  have c8 := kk.cell 8
  have c9 := kk.cell 9
  have c10 := kk.cell 10
  simp at c0 c1 c2 c3 c4 c5 c6 c7 c8 c9 c10
  have xlt := kk.lt
  clear kk
  refine (CL.out _).mono ?_
  rintro e w1 ⟨rfl, hb⟩
  replace HV := hide (below_t5 HV.out hb)
  have kk := KC.out _ HV.out
  clear hb
  clear c0 c1 c2 c3 c4 c5 c6 c7 c8 c9 c10 xlt
  have c0 := kk.cell 0
  have c1 := kk.cell 1
  have c2 := kk.cell 2
  have c3 := kk.cell 3
  have c4 := kk.cell 4
  have c5 := kk.cell 5
  have c6 := kk.cell 6
  have c7 := kk.cell 7
  have c8 := kk.cell 8
  have c9 := kk.cell 9
  have c10 := kk.cell 10
  simp at c0 c1 c2 c3 c4 c5 c6 c7 c8 c9 c10
  have xlt := kk.lt
  clear kk
  go_wp2_with fail
  refine (CC.out _ (below_t5 HB.out HV.out)).mono ?_
  rintro e w2 ⟨p, q, cp, cq, rfl, hl1, hl2, hb⟩
  have HL := hide (And.intro hl1 hl2)
  clear hl1 hl2
  replace HV := hide (below_t5 HV.out hb)
  have kk := KC.out _ HV.out
  clear hb
  clear c0 c1 c2 c3 c4 c5 c6 c7 c8 c9 c10 xlt
  have c0 := kk.cell 0
  have c1 := kk.cell 1
  have c2 := kk.cell 2
  have c3 := kk.cell 3
  have c4 := kk.cell 4
  have c5 := kk.cell 5
  have c6 := kk.cell 6
  have c7 := kk.cell 7
  have c8 := kk.cell 8
  have c9 := kk.cell 9
  have c10 := kk.cell 10
  simp at c0 c1 c2 c3 c4 c5 c6 c7 c8 c9 c10
  have xlt := kk.lt
  clear kk
  go_wp2_with fail
  have hal := (Below.refl w2.heap.size w2).alloc (Nat.le_refl _) (.cells #[.int .i64 up, .int .i64 sc, .int .i64 de, .int .i64 ga, .int .i64 b0, .int .i64 b1, .int .i64 b2, .int .i64 b3, .bool lg, .slice (some ⟨p, 0, none⟩) na cp, .slice (some ⟨q, 0, none⟩) nb cq] 28)
  have hky := Blk.new w2 #[.int .i64 up, .int .i64 sc, .int .i64 de, .int .i64 ga, .int .i64 b0, .int .i64 b1, .int .i64 b2, .int .i64 b3, .bool lg, .slice (some ⟨p, 0, none⟩) na cp, .slice (some ⟨q, 0, none⟩) nb cq] 28
  generalize w2.alloc (.cells #[.int .i64 up, .int .i64 sc, .int .i64 de, .int .i64 ga, .int .i64 b0, .int .i64 b1, .int .i64 b2, .int .i64 b3, .bool lg, .slice (some ⟨p, 0, none⟩) na cp, .slice (some ⟨q, 0, none⟩) nb cq] 28) = U at hal hky ⊢
  obtain ⟨y, hy⟩ : ∃ y, w2.heap.size = y := ⟨_, rfl⟩
  rw [hy] at hky ⊢
  replace HV := hide (below_t5 HV.out hal)
  replace HL := hide (And.intro (HL.out.1.below hal) (HL.out.2.below hal))
  have KY := hide (fun (u : World) (hu : Below U.heap.size U u) => hky.below hu)
  have HU := hide (Below.refl U.heap.size U)
  have C4 := hide (CB.out p q cp cq U HL.out.1 HL.out.2)
  clear hal hky hy
  refine C4.out.mono ?_
  rintro e w3 ⟨la, ln, lc, lv, rfl, hn1, hn2, hv1, ht1, hb⟩
  replace HU := hide (below_t5 HU.out hb)
  have HT1 := hide ht1
  have HN := hide (And.intro hn1 (And.intro hn2 hv1))
  clear C4 ht1 hn1 hn2 hv1
  replace HV := hide (below_t5 HV.out hb)
  have kk := KC.out _ HV.out
  clear hb
  clear c0 c1 c2 c3 c4 c5 c6 c7 c8 c9 c10 xlt
  have c0 := kk.cell 0
  have c1 := kk.cell 1
  have c2 := kk.cell 2
  have c3 := kk.cell 3
  have c4 := kk.cell 4
  have c5 := kk.cell 5
  have c6 := kk.cell 6
  have c7 := kk.cell 7
  have c8 := kk.cell 8
  have c9 := kk.cell 9
  have c10 := kk.cell 10
  simp at c0 c1 c2 c3 c4 c5 c6 c7 c8 c9 c10
  have xlt := kk.lt
  clear kk
  go_wp2_with fail
  refine (CRB.out _ (below_t5 HB.out HV.out)).mono ?_
  rintro e w4 ⟨ra, rn, rc, rv, rfl, hm1, hm2, hv2, ht2, hb⟩
  have hrn : rn = ln := by have := HN.out.1; omega
  have hrv : rv = lv := by rw [hv2, HN.out.2.2]
  subst hrn hrv
  replace HU := hide (below_t5 HU.out hb)
  replace HT1 := hide (HT1.out.below hb)
  have HT2 := hide ht2
  clear ht2 hm1 hm2 hv2
  replace HV := hide (below_t5 HV.out hb)
  have kk := KC.out _ HV.out
  clear hb
  clear c0 c1 c2 c3 c4 c5 c6 c7 c8 c9 c10 xlt
  have c0 := kk.cell 0
  have c1 := kk.cell 1
  have c2 := kk.cell 2
  have c3 := kk.cell 3
  have c4 := kk.cell 4
  have c5 := kk.cell 5
  have c6 := kk.cell 6
  have c7 := kk.cell 7
  have c8 := kk.cell 8
  have c9 := kk.cell 9
  have c10 := kk.cell 10
  simp at c0 c1 c2 c3 c4 c5 c6 c7 c8 c9 c10
  have xlt := kk.lt
  clear kk
  have KSS := hide (show ∀ z, Below w4.heap.size w4 z → (fun z : World => z.cell? ⟨x, 0, none⟩ = some (.int .i64 up) ∧ z.cell? ⟨x, 1, none⟩ = some (.int .i64 sc) ∧ z.cell? ⟨x, 2, none⟩ = some (.int .i64 de) ∧ z.cell? ⟨x, 3, none⟩ = some (.int .i64 ga) ∧ z.cell? ⟨x, 4, none⟩ = some (.int .i64 b0) ∧ z.cell? ⟨x, 5, none⟩ = some (.int .i64 b1) ∧ z.cell? ⟨x, 6, none⟩ = some (.int .i64 b2) ∧ z.cell? ⟨x, 7, none⟩ = some (.int .i64 b3) ∧ z.cell? ⟨x, 8, none⟩ = some (.bool lg) ∧ z.cell? ⟨x, 9, none⟩ = some (.slice aa na ca) ∧ z.cell? ⟨x, 10, none⟩ = some (.slice ab nb cb) ∧ z.cell? ⟨y, 0, none⟩ = some (.int .i64 up) ∧ z.cell? ⟨y, 1, none⟩ = some (.int .i64 sc) ∧ z.cell? ⟨y, 2, none⟩ = some (.int .i64 de) ∧ z.cell? ⟨y, 3, none⟩ = some (.int .i64 ga) ∧ z.cell? ⟨y, 4, none⟩ = some (.int .i64 b0) ∧ z.cell? ⟨y, 5, none⟩ = some (.int .i64 b1) ∧ z.cell? ⟨y, 6, none⟩ = some (.int .i64 b2) ∧ z.cell? ⟨y, 7, none⟩ = some (.int .i64 b3) ∧ z.cell? ⟨y, 8, none⟩ = some (.bool lg) ∧ z.cell? ⟨y, 9, none⟩ = some (.slice (some ⟨p, 0, none⟩) na cp) ∧ z.cell? ⟨y, 10, none⟩ = some (.slice (some ⟨q, 0, none⟩) nb cq)) z from fun z hz => by
    have k0 := KC.out z (below_t5 HV.out hz)
    have k1 := KY.out z (below_t5 HU.out hz)
    exact ⟨k0.cell 0, k0.cell 1, k0.cell 2, k0.cell 3, k0.cell 4, k0.cell 5, k0.cell 6, k0.cell 7, k0.cell 8, k0.cell 9, k0.cell 10, k1.cell 0, k1.cell 1, k1.cell 2, k1.cell 3, k1.cell 4, k1.cell 5, k1.cell 6, k1.cell 7, k1.cell 8, k1.cell 9, k1.cell 10⟩)
  have BASE := hide (fun (z : World) (hz : Below w4.heap.size w4 z) => below_t5 (below_t5 HB.out HV.out) hz)
  have LL := hide (fun (z : World) (hz : Below w4.heap.size w4 z) => And.intro (HL.out.1.below (below_t5 HU.out hz)) (HL.out.2.below (below_t5 HU.out hz)))
  have CT := hide (fun (z : World) (hz : Below w4.heap.size w4 z) => tsame_any la ra TL _ lc rc z HN.out.1 (by have := HN.out.2.1; omega) (HT1.out.below hz) (HT2.out.below hz))
  have HZ := hide (Below.refl w4.heap.size w4)
  clear c0 c1 c2 c3 c4 c5 c6 c7 c8 c9 c10 xlt
  go_wp2_with fail
  go_region_held3 (fun z => z.cell? ⟨x, 0, none⟩ = some (.int .i64 up) ∧ z.cell? ⟨x, 1, none⟩ = some (.int .i64 sc) ∧ z.cell? ⟨x, 2, none⟩ = some (.int .i64 de) ∧ z.cell? ⟨x, 3, none⟩ = some (.int .i64 ga) ∧ z.cell? ⟨x, 4, none⟩ = some (.int .i64 b0) ∧ z.cell? ⟨x, 5, none⟩ = some (.int .i64 b1) ∧ z.cell? ⟨x, 6, none⟩ = some (.int .i64 b2) ∧ z.cell? ⟨x, 7, none⟩ = some (.int .i64 b3) ∧ z.cell? ⟨x, 8, none⟩ = some (.bool lg) ∧ z.cell? ⟨x, 9, none⟩ = some (.slice aa na ca) ∧ z.cell? ⟨x, 10, none⟩ = some (.slice ab nb cb) ∧ z.cell? ⟨y, 0, none⟩ = some (.int .i64 up) ∧ z.cell? ⟨y, 1, none⟩ = some (.int .i64 sc) ∧ z.cell? ⟨y, 2, none⟩ = some (.int .i64 de) ∧ z.cell? ⟨y, 3, none⟩ = some (.int .i64 ga) ∧ z.cell? ⟨y, 4, none⟩ = some (.int .i64 b0) ∧ z.cell? ⟨y, 5, none⟩ = some (.int .i64 b1) ∧ z.cell? ⟨y, 6, none⟩ = some (.int .i64 b2) ∧ z.cell? ⟨y, 7, none⟩ = some (.int .i64 b3) ∧ z.cell? ⟨y, 8, none⟩ = some (.bool lg) ∧ z.cell? ⟨y, 9, none⟩ = some (.slice (some ⟨p, 0, none⟩) na cp) ∧ z.cell? ⟨y, 10, none⟩ = some (.slice (some ⟨q, 0, none⟩) nb cq)) (first | exact KSS.out _ (below_d HZ.out (Below.refl _ _) rfl rfl rfl rfl)) ((first | (go_at_call 18; refine (CG.out p q cp cq _ ?_ ?_).mono ?_; exact (LL.out _ (below_d HZ.out (Below.refl _ _) rfl rfl rfl rfl)).1; exact (LL.out _ (below_d HZ.out (Below.refl _ _) rfl rfl rfl rfl)).2; rintro e w1 ⟨rfl, hb⟩; replace HZ := hide (below_d HZ.out hb rfl rfl rfl rfl); clear hb) | (go_at_call 19; refine (CRG.out _ ?_).mono ?_; exact BASE.out _ (below_d HZ.out (Below.refl _ _) rfl rfl rfl rfl); rintro e w1 ⟨rfl, hb⟩; replace HZ := hide (below_d HZ.out hb rfl rfl rfl rfl); clear hb) | (go_at_call 13; refine (CT.out _ ?_).mono ?_; exact below_d HZ.out (Below.refl _ _) rfl rfl rfl rfl; rintro e w1 ⟨rfl, nn, rfl⟩) | (go_at_call 12; refine (CS.out p q cp cq _ ?_ ?_ ?_).mono ?_; exact BASE.out _ (below_d HZ.out (Below.refl _ _) rfl rfl rfl rfl); exact (LL.out _ (below_d HZ.out (Below.refl _ _) rfl rfl rfl rfl)).1; exact (LL.out _ (below_d HZ.out (Below.refl _ _) rfl rfl rfl rfl)).2; rintro e w1 ⟨rfl, hb⟩; replace HZ := hide (below_d HZ.out hb rfl rfl rfl rfl); clear hb) | (go_at_call 9; refine (CWK.out _).mono ?_; rintro e w1 ⟨rfl, hb⟩; replace HZ := hide (below_d HZ.out hb rfl rfl rfl rfl); clear hb)))
  all_goals
    go_wp2_with fail
    go_ret
    exact ⟨rfl, BASE.out _ HZ.out⟩
end Go.Proofs.Ytmbhgeideoenhaa
