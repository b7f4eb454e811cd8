/-
  The law MetricsBack, walked.
-/
import Derived.Test.YtmbhgeideoenhaaM9Sam
namespace Go.Proofs.Ytmbhgeideoenhaa
open Go.RowKit Go.Deep
set_option linter.unusedVariables false

set_option maxRecDepth 8000 in
set_option maxHeartbeats 8000000 in
theorem back_walk (m : Mt) (aa ab : Option Addr) (na ca nb cb : Nat) (w : World) (hM : MIn w m aa na ab nb) :
    Calls Try.prog 6 #[.agg (mcs m (.slice aa na ca) (.slice ab nb cb))] w fun e w' => e = .returned (.bool true) ∧ Below w.heap.size w w' := by
  have CL := hide (fun w => large_any m aa ab na ca nb cb w)
  have CWK := hide wakes9_any
  cases hl : lrB na nb
  case true =>
    rw [hl] at CL
    obtain ⟨up, sc, de, ga, b0, b1, b2, b3, lg, ad, be⟩ := m
    have HB := hide ((Below.refl w.heap.size w).alloc (Nat.le_refl _) (.cells #[.int .i64 up, .int .i64 sc, .int .i64 de, .int .i64 ga, .int .i64 b0, .int .i64 b1, .int .i64 b2, .int .i64 b3, .bool lg, .slice aa na ca, .slice ab nb cb] 28))
    have KV := hide (Blk.new w #[.int .i64 up, .int .i64 sc, .int .i64 de, .int .i64 ga, .int .i64 b0, .int .i64 b1, .int .i64 b2, .int .i64 b3, .bool lg, .slice aa na ca, .slice ab nb cb] 28)
    clear hM hl
    simp only [mcs] at CL ⊢
    go_enter Try.func6, Try.ntmps6
    go_wp2_with fail
    generalize w.alloc (.cells #[.int .i64 up, .int .i64 sc, .int .i64 de, .int .i64 ga, .int .i64 b0, .int .i64 b1, .int .i64 b2, .int .i64 b3, .bool lg, .slice aa na ca, .slice ab nb cb] 28) = V at HB KV ⊢
    obtain ⟨x, hx⟩ : ∃ x, w.heap.size = x := ⟨_, rfl⟩
    have KV2 : Hid (Blk V x #[.int .i64 up, .int .i64 sc, .int .i64 de, .int .i64 ga, .int .i64 b0, .int .i64 b1, .int .i64 b2, .int .i64 b3, .bool lg, .slice aa na ca, .slice ab nb cb] 28) := hx ▸ KV
    rw [hx]
    have KC := hide (fun (u : World) (hu : Below V.heap.size V u) => KV2.out.below hu)
    have HV := hide (Below.refl V.heap.size V)
    have kk := KC.out _ HV.out
    clear KV KV2 hx
    have c0 := kk.cell 0
    have c1 := kk.cell 1
    have c2 := kk.cell 2
    have c3 := kk.cell 3
    have c4 := kk.cell 4
    have c5 := kk.cell 5
    have c6 := kk.cell 6
    have c7 := kk.cell 7
    have c8 := kk.cell 8
    have c9 := kk.cell 9
    have c10 := kk.cell 10
    simp at c0 c1 c2 c3 c4 c5 c6 c7 c8 c9 c10
    have xlt := kk.lt
    clear kk
    refine (CL.out _).mono ?_
    rintro e w1 ⟨rfl, hb⟩
    replace HV := hide (below_t5 HV.out hb)
    have kk := KC.out _ HV.out
    clear hb
    clear c0 c1 c2 c3 c4 c5 c6 c7 c8 c9 c10 xlt
    have c0 := kk.cell 0
    have c1 := kk.cell 1
    have c2 := kk.cell 2
    have c3 := kk.cell 3
    have c4 := kk.cell 4
    have c5 := kk.cell 5
    have c6 := kk.cell 6
    have c7 := kk.cell 7
    have c8 := kk.cell 8
    have c9 := kk.cell 9
    have c10 := kk.cell 10
    simp at c0 c1 c2 c3 c4 c5 c6 c7 c8 c9 c10
    have xlt := kk.lt
    clear kk
    go_wp2_with fail
    refine (CWK.out _).mono ?_
    rintro e w2 ⟨rfl, hb⟩
    replace HV := hide (below_t5 HV.out hb)
    clear hb
    go_wp2_with fail
    go_ret
    exact ⟨rfl, below_t5 HB.out HV.out⟩
  rw [hl] at CL
  have hna : na ≤ 5000 := by unfold lrB at hl; simp at hl; omega
  have hnb : nb ≤ 5000 := by unfold lrB at hl; simp at hl; omega
  have CC := hide (fun (v : World) (h : Below w.heap.size w v) => cp_any m aa ab na ca nb cb v hM.hna hM.hnb (by omega) (by omega) (hM.la.below h) (hM.lb.below h))
  have CG := hide (fun (p q cp cq : Nat) (v : World) (h1 : Lst v (some ⟨p, 0, none⟩) m.ad) (h2 : Lst v (some ⟨q, 0, none⟩) m.be) => good_any m (some ⟨p, 0, none⟩) (some ⟨q, 0, none⟩) na nb cp cq v hM.hna hM.hnb (by omega) (by omega) h1 h2)
  cases hgd : goodB m
  case false =>
    have CB := hide (fun (p q cp cq : Nat) (v : World) (h1 : Lst v (some ⟨p, 0, none⟩) m.ad) (h2 : Lst v (some ⟨q, 0, none⟩) m.be) => bld_bad m (some ⟨p, 0, none⟩) (some ⟨q, 0, none⟩) na nb cp cq v hM.hna hM.hnb (by omega) (by omega) h1 h2 hgd)
    rw [hgd] at CG
    obtain ⟨up, sc, de, ga, b0, b1, b2, b3, lg, ad, be⟩ := m
    have HB := hide ((Below.refl w.heap.size w).alloc (Nat.le_refl _) (.cells #[.int .i64 up, .int .i64 sc, .int .i64 de, .int .i64 ga, .int .i64 b0, .int .i64 b1, .int .i64 b2, .int .i64 b3, .bool lg, .slice aa na ca, .slice ab nb cb] 28))
    have KV := hide (Blk.new w #[.int .i64 up, .int .i64 sc, .int .i64 de, .int .i64 ga, .int .i64 b0, .int .i64 b1, .int .i64 b2, .int .i64 b3, .bool lg, .slice aa na ca, .slice ab nb cb] 28)
    clear hM hl hgd hna hnb
    simp only [mcs] at CL CC CG CB ⊢
    go_enter Try.func6, Try.ntmps6
    go_wp2_with fail
    generalize w.alloc (.cells #[.int .i64 up, .int .i64 sc, .int .i64 de, .int .i64 ga, .int .i64 b0, .int .i64 b1, .int .i64 b2, .int .i64 b3, .bool lg, .slice aa na ca, .slice ab nb cb] 28) = V at HB KV ⊢
    obtain ⟨x, hx⟩ : ∃ x, w.heap.size = x := ⟨_, rfl⟩
    have KV2 : Hid (Blk V x #[.int .i64 up, .int .i64 sc, .int .i64 de, .int .i64 ga, .int .i64 b0, .int .i64 b1, .int .i64 b2, .int .i64 b3, .bool lg, .slice aa na ca, .slice ab nb cb] 28) := hx ▸ KV
    rw [hx]
    have KC := hide (fun (u : World) (hu : Below V.heap.size V u) => KV2.out.below hu)
    have HV := hide (Below.refl V.heap.size V)
    have kk := KC.out _ HV.out
    clear KV KV2 hx
    have c0 := kk.cell 0
    have c1 := kk.cell 1
    have c2 := kk.cell 2
    have c3 := kk.cell 3
    have c4 := kk.cell 4
    have c5 := kk.cell 5
    have c6 := kk.cell 6
    have c7 := kk.cell 7
    have c8 := kk.cell 8
    have c9 := kk.cell 9
    have c10 := kk.cell 10
    simp at c0 c1 c2 c3 c4 c5 c6 c7 c8 c9 c10
    have xlt := kk.lt
    clear kk
    refine (CL.out _).mono ?_
    rintro e w1 ⟨rfl, hb⟩
    replace HV := hide (below_t5 HV.out hb)
    have kk := KC.out _ HV.out
    clear hb
    clear c0 c1 c2 c3 c4 c5 c6 c7 c8 c9 c10 xlt
    have c0 := kk.cell 0
    have c1 := kk.cell 1
    have c2 := kk.cell 2
    have c3 := kk.cell 3
    have c4 := kk.cell 4
    have c5 := kk.cell 5
    have c6 := kk.cell 6
    have c7 := kk.cell 7
    have c8 := kk.cell 8
    have c9 := kk.cell 9
    have c10 := kk.cell 10
    simp at c0 c1 c2 c3 c4 c5 c6 c7 c8 c9 c10
    have xlt := kk.lt
    clear kk
    go_wp2_with fail
    refine (CC.out _ (below_t5 HB.out HV.out)).mono ?_
    rintro e w2 ⟨p, q, cp, cq, rfl, hl1, hl2, hb⟩
    have C2 := hide (CB.out p q cp cq w2 hl1 hl2)
    clear hl1 hl2
    replace HV := hide (below_t5 HV.out hb)
    have kk := KC.out _ HV.out
    clear hb
    clear c0 c1 c2 c3 c4 c5 c6 c7 c8 c9 c10 xlt
    have c0 := kk.cell 0
    have c1 := kk.cell 1
    have c2 := kk.cell 2
    have c3 := kk.cell 3
    have c4 := kk.cell 4
    have c5 := kk.cell 5
    have c6 := kk.cell 6
    have c7 := kk.cell 7
    have c8 := kk.cell 8
    have c9 := kk.cell 9
    have c10 := kk.cell 10
    simp at c0 c1 c2 c3 c4 c5 c6 c7 c8 c9 c10
    have xlt := kk.lt
    clear kk
    go_wp2_with fail
    refine C2.out.mono ?_
    rintro e w3 ⟨rfl, hb⟩
    clear C2
    replace HV := hide (below_t5 HV.out hb)
    have kk := KC.out _ HV.out
    clear hb
    clear c0 c1 c2 c3 c4 c5 c6 c7 c8 c9 c10 xlt
    have c0 := kk.cell 0
    have c1 := kk.cell 1
    have c2 := kk.cell 2
    have c3 := kk.cell 3
    have c4 := kk.cell 4
    have c5 := kk.cell 5
    have c6 := kk.cell 6
    have c7 := kk.cell 7
    have c8 := kk.cell 8
    have c9 := kk.cell 9
    have c10 := kk.cell 10
    simp at c0 c1 c2 c3 c4 c5 c6 c7 c8 c9 c10
    have xlt := kk.lt
    clear kk
    go_wp2_with fail
    refine (CC.out _ (below_t5 HB.out HV.out)).mono ?_
    rintro e w4 ⟨p, q, cp, cq, rfl, hl1, hl2, hb⟩
    have C2 := hide (CG.out p q cp cq w4 hl1 hl2)
    clear hl1 hl2
    replace HV := hide (below_t5 HV.out hb)
    have kk := KC.out _ HV.out
    clear hb
    clear c0 c1 c2 c3 c4 c5 c6 c7 c8 c9 c10 xlt
    have c0 := kk.cell 0
    have c1 := kk.cell 1
    have c2 := kk.cell 2
    have c3 := kk.cell 3
    have c4 := kk.cell 4
    have c5 := kk.cell 5
    have c6 := kk.cell 6
    have c7 := kk.cell 7
    have c8 := kk.cell 8
    have c9 := kk.cell 9
    have c10 := kk.cell 10
    simp at c0 c1 c2 c3 c4 c5 c6 c7 c8 c9 c10
    have xlt := kk.lt
    clear kk
    go_wp2_with fail
    refine C2.out.mono ?_
    rintro e w5 ⟨rfl, hb⟩
    clear C2
    replace HV := hide (below_t5 HV.out hb)
    have kk := KC.out _ HV.out
    clear hb
    clear c0 c1 c2 c3 c4 c5 c6 c7 c8 c9 c10 xlt
    have c0 := kk.cell 0
    have c1 := kk.cell 1
    have c2 := kk.cell 2
    have c3 := kk.cell 3
    have c4 := kk.cell 4
    have c5 := kk.cell 5
    have c6 := kk.cell 6
    have c7 := kk.cell 7
    have c8 := kk.cell 8
    have c9 := kk.cell 9
    have c10 := kk.cell 10
    simp at c0 c1 c2 c3 c4 c5 c6 c7 c8 c9 c10
    have xlt := kk.lt
    clear kk
    go_wp2_with fail
    refine (CWK.out _).mono ?_
    rintro e w6 ⟨rfl, hb⟩
    replace HV := hide (below_t5 HV.out hb)
    clear hb
    go_wp2_with fail
    go_ret
    exact ⟨rfl, below_t5 HB.out HV.out⟩
  obtain ⟨g1, g2, g3, g4, g5, g6, g7⟩ := good_in hgd
  have hbn : nb = na := by have := hM.hna; have := hM.hnb; omega
  subst hbn
  have CB := hide (fun (p q cp cq : Nat) (v : World) (h1 : Lst v (some ⟨p, 0, none⟩) m.ad) (h2 : Lst v (some ⟨q, 0, none⟩) m.be) => bld_any m (some ⟨p, 0, none⟩) (some ⟨q, 0, none⟩) nb cp cq v hM.hna hM.hnb h1 h2 hgd)
  have CR := hide (fun (g : Nat) (v : World) (h : Blk v g (tabC m nb) 46) => rdb_any m g nb v hgd hM.hna h)
  have CS := hide (fun (p q : Nat) (v : World) (h : Below w.heap.size w v) (h1 : Lst v (some ⟨p, 0, none⟩) m.ad) (h2 : Lst v (some ⟨q, 0, none⟩) m.be) => msame_any m (some ⟨p, 0, none⟩) aa (some ⟨q, 0, none⟩) ab nb nb nb ca nb cb v hM.hna hM.hnb (by omega) (by omega) h1 (hM.la.below h) h2 (hM.lb.below h))
  have HAD := hide hM.hna
  generalize tabC m nb = TC at CB CR
  rw [hgd] at CG
  have hn0 : (nb : Int) ≤ 5000 := by omega
  obtain ⟨up, sc, de, ga, b0, b1, b2, b3, lg, ad, be⟩ := m
  have HB := hide ((Below.refl w.heap.size w).alloc (Nat.le_refl _) (.cells #[.int .i64 up, .int .i64 sc, .int .i64 de, .int .i64 ga, .int .i64 b0, .int .i64 b1, .int .i64 b2, .int .i64 b3, .bool lg, .slice aa nb ca, .slice ab nb cb] 28))
  have KV := hide (Blk.new w #[.int .i64 up, .int .i64 sc, .int .i64 de, .int .i64 ga, .int .i64 b0, .int .i64 b1, .int .i64 b2, .int .i64 b3, .bool lg, .slice aa nb ca, .slice ab nb cb] 28)
  clear hM hl hgd hna hnb g1 g2 g3 g4 g5 g6 g7
  simp only [mcs] at CL CC CG CB CR CS HAD ⊢
  go_enter Try.func6, Try.ntmps6
  go_wp2_with fail
  generalize w.alloc (.cells #[.int .i64 up, .int .i64 sc, .int .i64 de, .int .i64 ga, .int .i64 b0, .int .i64 b1, .int .i64 b2, .int .i64 b3, .bool lg, .slice aa nb ca, .slice ab nb cb] 28) = V at HB KV ⊢
  obtain ⟨x, hx⟩ : ∃ x, w.heap.size = x := ⟨_, rfl⟩
  have KV2 : Hid (Blk V x #[.int .i64 up, .int .i64 sc, .int .i64 de, .int .i64 ga, .int .i64 b0, .int .i64 b1, .int .i64 b2, .int .i64 b3, .bool lg, .slice aa nb ca, .slice ab nb cb] 28) := hx ▸ KV
  rw [hx]
  have KC := hide (fun (u : World) (hu : Below V.heap.size V u) => KV2.out.below hu)
  have HV := hide (Below.refl V.heap.size V)
  have kk := KC.out _ HV.out
  clear KV KV2 hx
  have c0 := kk.cell 0
  have c1 := kk.cell 1
  have c2 := kk.cell 2
  have c3 := kk.cell 3
  have c4 := kk.cell 4
  have c5 := kk.cell 5
  have c6 := kk.cell 6
  have c7 := kk.cell 7
  have c8 := kk.cell 8
  have c9 := kk.cell 9
  have c10 := kk.cell 10
  simp at c0 c1 c2 c3 c4 c5 c6 c7 c8 c9 c10
  have xlt := kk.lt
  clear kk
  refine (CL.out _).mono ?_
  rintro e w1 ⟨rfl, hb⟩
  replace HV := hide (below_t5 HV.out hb)
  have kk := KC.out _ HV.out
  clear hb
  clear c0 c1 c2 c3 c4 c5 c6 c7 c8 c9 c10 xlt
  have c0 := kk.cell 0
  have c1 := kk.cell 1
  have c2 := kk.cell 2
  have c3 := kk.cell 3
  have c4 := kk.cell 4
  have c5 := kk.cell 5
  have c6 := kk.cell 6
  have c7 := kk.cell 7
  have c8 := kk.cell 8
  have c9 := kk.cell 9
  have c10 := kk.cell 10
  simp at c0 c1 c2 c3 c4 c5 c6 c7 c8 c9 c10
  have xlt := kk.lt
  clear kk
  go_wp2_with fail
  refine (CC.out _ (below_t5 HB.out HV.out)).mono ?_
  rintro e w2 ⟨p0, q0, cp0, cq0, rfl, hl1, hl2, hb⟩
  have C2 := hide (CB.out p0 q0 cp0 cq0 w2 hl1 hl2)
  clear hl1 hl2
  replace HV := hide (below_t5 HV.out hb)
  have kk := KC.out _ HV.out
  clear hb
  clear c0 c1 c2 c3 c4 c5 c6 c7 c8 c9 c10 xlt
  have c0 := kk.cell 0
  have c1 := kk.cell 1
  have c2 := kk.cell 2
  have c3 := kk.cell 3
  have c4 := kk.cell 4
  have c5 := kk.cell 5
  have c6 := kk.cell 6
  have c7 := kk.cell 7
  have c8 := kk.cell 8
  have c9 := kk.cell 9
  have c10 := kk.cell 10
  simp at c0 c1 c2 c3 c4 c5 c6 c7 c8 c9 c10
  have xlt := kk.lt
  clear kk
  go_wp2_with fail
  refine C2.out.mono ?_
  rintro e w3 ⟨g, rfl, hkg, _, hb⟩
  have HG := hide hkg
  clear C2 hkg
  replace HV := hide (below_t5 HV.out hb)
  have kk := KC.out _ HV.out
  clear hb
  clear c0 c1 c2 c3 c4 c5 c6 c7 c8 c9 c10 xlt
  have c0 := kk.cell 0
  have c1 := kk.cell 1
  have c2 := kk.cell 2
  have c3 := kk.cell 3
  have c4 := kk.cell 4
  have c5 := kk.cell 5
  have c6 := kk.cell 6
  have c7 := kk.cell 7
  have c8 := kk.cell 8
  have c9 := kk.cell 9
  have c10 := kk.cell 10
  simp at c0 c1 c2 c3 c4 c5 c6 c7 c8 c9 c10
  have xlt := kk.lt
  clear kk
  go_wp2_with fail
  refine (CC.out _ (below_t5 HB.out HV.out)).mono ?_
  rintro e w4 ⟨p1, q1, cp1, cq1, rfl, hl1, hl2, hb⟩
  have C2 := hide (CG.out p1 q1 cp1 cq1 w4 hl1 hl2)
  replace HG := hide (HG.out.below hb)
  clear hl1 hl2
  replace HV := hide (below_t5 HV.out hb)
  have kk := KC.out _ HV.out
  clear hb
  clear c0 c1 c2 c3 c4 c5 c6 c7 c8 c9 c10 xlt
  have c0 := kk.cell 0
  have c1 := kk.cell 1
  have c2 := kk.cell 2
  have c3 := kk.cell 3
  have c4 := kk.cell 4
  have c5 := kk.cell 5
  have c6 := kk.cell 6
  have c7 := kk.cell 7
  have c8 := kk.cell 8
  have c9 := kk.cell 9
  have c10 := kk.cell 10
  simp at c0 c1 c2 c3 c4 c5 c6 c7 c8 c9 c10
  have xlt := kk.lt
  clear kk
  go_wp2_with fail
  refine C2.out.mono ?_
  rintro e w5 ⟨rfl, hb⟩
  replace HG := hide (HG.out.below hb)
  have C3 := hide (CR.out g w5 HG.out)
  clear C2
  replace HV := hide (below_t5 HV.out hb)
  have kk := KC.out _ HV.out
  clear hb
  clear c0 c1 c2 c3 c4 c5 c6 c7 c8 c9 c10 xlt
  have c0 := kk.cell 0
  have c1 := kk.cell 1
  have c2 := kk.cell 2
  have c3 := kk.cell 3
  have c4 := kk.cell 4
  have c5 := kk.cell 5
  have c6 := kk.cell 6
  have c7 := kk.cell 7
  have c8 := kk.cell 8
  have c9 := kk.cell 9
  have c10 := kk.cell 10
  simp at c0 c1 c2 c3 c4 c5 c6 c7 c8 c9 c10
  have xlt := kk.lt
  clear kk
  go_wp2_with fail
  refine C3.out.mono ?_
  rintro e w6 ⟨p, q, rfl, kp, kq, hp, hq, hpq, hb⟩
  have hgl := HG.out.lt
  have HPG : Hid (g ≠ p ∧ V.heap.size ≤ p) := hide ⟨by omega, Nat.le_trans HV.out.size hp⟩
  replace HG := hide (HG.out.below hb)
  have HKP := hide (And.intro kp kq)
  clear C3 hp hq hpq kp kq hgl
  replace HV := hide (below_t5 HV.out hb)
  have kk := KC.out _ HV.out
  clear hb
  clear c0 c1 c2 c3 c4 c5 c6 c7 c8 c9 c10 xlt
  have c0 := kk.cell 0
  have c1 := kk.cell 1
  have c2 := kk.cell 2
  have c3 := kk.cell 3
  have c4 := kk.cell 4
  have c5 := kk.cell 5
  have c6 := kk.cell 6
  have c7 := kk.cell 7
  have c8 := kk.cell 8
  have c9 := kk.cell 9
  have c10 := kk.cell 10
  simp at c0 c1 c2 c3 c4 c5 c6 c7 c8 c9 c10
  have xlt := kk.lt
  clear kk
  go_wp2_with fail
  have hal := (Below.refl w6.heap.size w6).alloc (Nat.le_refl _) (.cells #[.int .i64 up, .int .i64 sc, .int .i64 de, .int .i64 ga, .int .i64 b0, .int .i64 b1, .int .i64 b2, .int .i64 b3, .bool lg, .slice (some ⟨p, 0, none⟩) nb nb, .slice (some ⟨q, 0, none⟩) nb nb] 28)
  have hky := Blk.new w6 #[.int .i64 up, .int .i64 sc, .int .i64 de, .int .i64 ga, .int .i64 b0, .int .i64 b1, .int .i64 b2, .int .i64 b3, .bool lg, .slice (some ⟨p, 0, none⟩) nb nb, .slice (some ⟨q, 0, none⟩) nb nb] 28
  have HPY : Hid (w6.heap.size ≠ p) := hide (by have := HKP.out.1.lt; omega)
  generalize w6.alloc (.cells #[.int .i64 up, .int .i64 sc, .int .i64 de, .int .i64 ga, .int .i64 b0, .int .i64 b1, .int .i64 b2, .int .i64 b3, .bool lg, .slice (some ⟨p, 0, none⟩) nb nb, .slice (some ⟨q, 0, none⟩) nb nb] 28) = U at hal hky ⊢
  obtain ⟨y, hy⟩ : ∃ y, w6.heap.size = y := ⟨_, rfl⟩
  rw [hy] at hky HPY ⊢
  replace HV := hide (below_t5 HV.out hal)
  replace HG := hide (HG.out.below hal)
  replace HKP := hide (And.intro (HKP.out.1.below hal) (HKP.out.2.below hal))
  have HY := hide hky
  clear hal hky hy
  refine (CS.out p q U (below_t5 HB.out HV.out) (ints_lst HKP.out.1) (ints_lst HKP.out.2)).mono ?_
  rintro e w7 ⟨rfl, hb⟩
  replace HG := hide (HG.out.below hb)
  replace HKP := hide (And.intro (HKP.out.1.below hb) (HKP.out.2.below hb))
  replace HY := hide (HY.out.below hb)
  replace HV := hide (below_t5 HV.out hb)
  have kk := KC.out _ HV.out
  clear hb
  clear c0 c1 c2 c3 c4 c5 c6 c7 c8 c9 c10 xlt
  have c0 := kk.cell 0
  have c1 := kk.cell 1
  have c2 := kk.cell 2
  have c3 := kk.cell 3
  have c4 := kk.cell 4
  have c5 := kk.cell 5
  have c6 := kk.cell 6
  have c7 := kk.cell 7
  have c8 := kk.cell 8
  have c9 := kk.cell 9
  have c10 := kk.cell 10
  simp at c0 c1 c2 c3 c4 c5 c6 c7 c8 c9 c10
  have xlt := kk.lt
  clear kk
  have d9 := HY.out.cell 9
  have ylt := HY.out.lt
  simp at d9
  go_wp2_with fail
  go_loopw [7] (fun vi wr => ∃ (i : Nat), vi = .int .i64 i ∧ Hid (i ≤ nb ∧ Below V.heap.size V wr ∧ Blk wr g TC 46 ∧ Blk wr y #[.int .i64 up, .int .i64 sc, .int .i64 de, .int .i64 ga, .int .i64 b0, .int .i64 b1, .int .i64 b2, .int .i64 b3, .bool lg, .slice (some ⟨p, 0, none⟩) nb nb, .slice (some ⟨q, 0, none⟩) nb nb] 28 ∧ ∃ cs : Array Value, cs.size = nb ∧ (∀ j, j < nb → ∃ z, cs[j]? = some (.int .i64 z)) ∧ Blk wr p cs 3)) (fun vi _ => nb - (intOf vi).toNat)
  case atStart => exact ⟨0, rfl, hide ⟨by omega, HV.out, HG.out, HY.out, ints ad, by simp [ints, HAD.out], fun j hj => ⟨ad.getD j 0, by unfold ints; simp [HAD.out, hj, List.getD_eq_getElem?_getD]⟩, HKP.out.1⟩⟩
  case round =>
    clear c0 c1 c2 c3 c4 c5 c6 c7 c8 c9 c10 xlt
    clear d9 ylt HV HG HY HKP
    obtain ⟨i, rfl, HVV⟩ := hrel
    obtain ⟨hi, hv, hg, hy, cs, hcs, hcc, hkp⟩ := HVV.out
    have hi0 : (0 : Int) ≤ (i : Int) := by omega
    have d9 := hy.cell 9
    have ylt := hy.lt
    simp at d9
    have HV := hide hv
    have HG := hide hg
    have HY := hide hy
    clear HVV
    by_cases hlt : i < nb
    · have hlt' : (i : Int) < (nb : Int) := by omega
      obtain ⟨z, hz⟩ := hcc i hlt
      have e0 := hkp.cell i
      rw [hz] at e0
      have f0 := hkp.frozen i
      have plt := hkp.lt
      have hby : y ≠ p := HPY.out
      have hset : But p wr (wr.setCell ⟨p, i, none⟩ (.int .i64 (-1))) := But.setCell _ _ _ _
      have REL : Hid (i + 1 ≤ nb ∧ Below V.heap.size V (wr.setCell ⟨p, i, none⟩ (.int .i64 (-1))) ∧ Blk (wr.setCell ⟨p, i, none⟩ (.int .i64 (-1))) g TC 46 ∧ Blk (wr.setCell ⟨p, i, none⟩ (.int .i64 (-1))) y #[.int .i64 up, .int .i64 sc, .int .i64 de, .int .i64 ga, .int .i64 b0, .int .i64 b1, .int .i64 b2, .int .i64 b3, .bool lg, .slice (some ⟨p, 0, none⟩) nb nb, .slice (some ⟨q, 0, none⟩) nb nb] 28 ∧ ∃ cs : Array Value, cs.size = nb ∧ (∀ j, j < nb → ∃ z, cs[j]? = some (.int .i64 z)) ∧ Blk (wr.setCell ⟨p, i, none⟩ (.int .i64 (-1))) p cs 3) := hide ⟨by omega, hset.below hv HPG.out.2, hset.blk hg HPG.out.1, hset.blk hy HPY.out, cs.setIfInBounds i (.int .i64 (-1)), by simp [hcs], fun j hj => by
        rw [Array.getElem?_setIfInBounds]
        by_cases e : i = j
        · exact ⟨-1, by rw [if_pos e]; simp [hcs, e, hj]⟩
        · rw [if_neg e]; exact hcc j hj, Blk.set hkp i (.int .i64 (-1))⟩
      clear hv hg hy hcc hkp hset hz hi
      go_wp2_with fail
      go_roundw
      case rel => exact ⟨i + 1, by go_num, REL⟩
      case measure => simp [intOf]; omega
    · have hlt' : ¬ (i : Int) < (nb : Int) := by omega
      have C3 := hide (CR.out g wr HG.out)
      have kk := KC.out _ HV.out
      have c0 := kk.cell 0
      have c1 := kk.cell 1
      have c2 := kk.cell 2
      have c3 := kk.cell 3
      have c4 := kk.cell 4
      have c5 := kk.cell 5
      have c6 := kk.cell 6
      have c7 := kk.cell 7
      have c8 := kk.cell 8
      have c9 := kk.cell 9
      have c10 := kk.cell 10
      simp at c0 c1 c2 c3 c4 c5 c6 c7 c8 c9 c10
      have xlt := kk.lt
      clear kk
      clear hv hg hy hcc hkp hlt hi
      go_wp2_with fail
      refine C3.out.mono ?_
      rintro e w9 ⟨p3, q3, rfl, kp, kq, hp, hq, hpq, hb⟩
      have HKP := hide (And.intro kp kq)
      clear C3 hp hq hpq kp kq
      replace HV := hide (below_t5 HV.out hb)
      have kk := KC.out _ HV.out
      clear hb
      clear c0 c1 c2 c3 c4 c5 c6 c7 c8 c9 c10 xlt
      have c0 := kk.cell 0
      have c1 := kk.cell 1
      have c2 := kk.cell 2
      have c3 := kk.cell 3
      have c4 := kk.cell 4
      have c5 := kk.cell 5
      have c6 := kk.cell 6
      have c7 := kk.cell 7
      have c8 := kk.cell 8
      have c9 := kk.cell 9
      have c10 := kk.cell 10
      simp at c0 c1 c2 c3 c4 c5 c6 c7 c8 c9 c10
      have xlt := kk.lt
      clear kk
      go_wp2_with fail
      have hal := (Below.refl w9.heap.size w9).alloc (Nat.le_refl _) (.cells #[.int .i64 up, .int .i64 sc, .int .i64 de, .int .i64 ga, .int .i64 b0, .int .i64 b1, .int .i64 b2, .int .i64 b3, .bool lg, .slice (some ⟨p3, 0, none⟩) nb nb, .slice (some ⟨q3, 0, none⟩) nb nb] 28)
      replace HV := hide (below_t5 HV.out hal)
      replace HKP := hide (And.intro (HKP.out.1.below hal) (HKP.out.2.below hal))
      clear hal
      refine (CS.out p3 q3 _ (below_t5 HB.out HV.out) (ints_lst HKP.out.1) (ints_lst HKP.out.2)).mono ?_
      rintro e w10 ⟨rfl, hb⟩
      replace HV := hide (below_t5 HV.out hb)
      clear hb
      go_wp2_with fail
      refine (CWK.out _).mono ?_
      rintro e w11 ⟨rfl, hb⟩
      replace HV := hide (below_t5 HV.out hb)
      clear hb
      go_wp2_with fail
      go_ret
      exact ⟨rfl, below_t5 HB.out HV.out⟩
end Go.Proofs.Ytmbhgeideoenhaa
