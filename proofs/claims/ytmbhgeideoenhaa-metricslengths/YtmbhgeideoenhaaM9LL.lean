/-
  The law MetricsLengths, walked.
-/
import Derived.Test.YtmbhgeideoenhaaM9Opn
namespace Go.Proofs.Ytmbhgeideoenhaa
open Go.RowKit Go.Deep
set_option linter.unusedVariables false

set_option maxRecDepth 8000 in
set_option maxHeartbeats 4000000 in
theorem lengths_walk (m : Mt) (aa ab : Option Addr) (na ca nb cb : Nat) (u size : Int) (w : World) (hM : MIn w m aa na ab nb) (hu : i64 u) (hs : i64 size) :
    Calls Try.prog 5 #[.agg (mcs m (.slice aa na ca) (.slice ab nb cb)), .int .i64 u, .int .i64 size] w fun e w' => e = .returned (.bool true) ∧ Below w.heap.size w w' := by
  have CL := hide (fun w => large_any m aa ab na ca nb cb w)
  have CWK := hide wakes9_any
  cases hl : lrB na nb
  case true =>
    rw [hl] at CL
    obtain ⟨up, sc, de, ga, b0, b1, b2, b3, lg, ad, be⟩ := m
    have HB := hide ((Below.refl w.heap.size w).alloc (Nat.le_refl _) (.cells #[.int .i64 up, .int .i64 sc, .int .i64 de, .int .i64 ga, .int .i64 b0, .int .i64 b1, .int .i64 b2, .int .i64 b3, .bool lg, .slice aa na ca, .slice ab nb cb] 28))
    have KV := hide (Blk.new w #[.int .i64 up, .int .i64 sc, .int .i64 de, .int .i64 ga, .int .i64 b0, .int .i64 b1, .int .i64 b2, .int .i64 b3, .bool lg, .slice aa na ca, .slice ab nb cb] 28)
    clear hM hu hs hl
    simp only [mcs] at CL ⊢
    go_enter Try.func5, Try.ntmps5
    go_wp2_with fail
    generalize w.alloc (.cells #[.int .i64 up, .int .i64 sc, .int .i64 de, .int .i64 ga, .int .i64 b0, .int .i64 b1, .int .i64 b2, .int .i64 b3, .bool lg, .slice aa na ca, .slice ab nb cb] 28) = V at HB KV ⊢
    obtain ⟨x, hx⟩ : ∃ x, w.heap.size = x := ⟨_, rfl⟩
    have KV2 : Hid (Blk V x #[.int .i64 up, .int .i64 sc, .int .i64 de, .int .i64 ga, .int .i64 b0, .int .i64 b1, .int .i64 b2, .int .i64 b3, .bool lg, .slice aa na ca, .slice ab nb cb] 28) := hx ▸ KV
    rw [hx]
    have KC := hide (fun (u : World) (hu : Below V.heap.size V u) => KV2.out.below hu)
    have HV := hide (Below.refl V.heap.size V)
    have kk := KC.out _ HV.out
    clear KV KV2 hx
    have c0 := kk.cell 0
    have c1 := kk.cell 1
    have c2 := kk.cell 2
    have c3 := kk.cell 3
    have c4 := kk.cell 4
    have c5 := kk.cell 5
    have c6 := kk.cell 6
    have c7 := kk.cell 7
    have c8 := kk.cell 8
    have c9 := kk.cell 9
    have c10 := kk.cell 10
    simp at c0 c1 c2 c3 c4 c5 c6 c7 c8 c9 c10
    have xlt := kk.lt
    clear kk
    refine (CL.out _).mono ?_
    rintro e w1 ⟨rfl, hb⟩
    replace HV := hide (below_t5 HV.out hb)
    have kk := KC.out _ HV.out
    clear hb
    clear c0 c1 c2 c3 c4 c5 c6 c7 c8 c9 c10 xlt
    have c0 := kk.cell 0
    have c1 := kk.cell 1
    have c2 := kk.cell 2
    have c3 := kk.cell 3
    have c4 := kk.cell 4
    have c5 := kk.cell 5
    have c6 := kk.cell 6
    have c7 := kk.cell 7
    have c8 := kk.cell 8
    have c9 := kk.cell 9
    have c10 := kk.cell 10
    simp at c0 c1 c2 c3 c4 c5 c6 c7 c8 c9 c10
    have xlt := kk.lt
    clear kk
    go_wp2_with fail
    refine (CWK.out _).mono ?_
    rintro e w2 ⟨rfl, hb⟩
    replace HV := hide (below_t5 HV.out hb)
    clear hb
    go_wp2_with fail
    go_ret
    exact ⟨rfl, below_t5 HB.out HV.out⟩
  rw [hl] at CL
  have hna : na ≤ 5000 := by unfold lrB at hl; simp at hl; omega
  have hnb : nb ≤ 5000 := by unfold lrB at hl; simp at hl; omega
  have CC := hide (fun (v : World) (h : Below w.heap.size w v) => cp_any m aa ab na ca nb cb v hM.hna hM.hnb (by omega) (by omega) (hM.la.below h) (hM.lb.below h))
  have CU := hide (fun (p q cp cq : Nat) (v : World) => un_any m (some ⟨p, 0, none⟩) (some ⟨q, 0, none⟩) na cp nb cq u size v hM.up hu hs)
  have CRU := hide (fun (v : World) => run_any m aa ab na ca nb cb u size v hM.up hu hs)
  have CD := hide (fun (p q cp cq : Nat) (v : World) (h : Lst v (some ⟨p, 0, none⟩) m.ad) => wd_any m (some ⟨p, 0, none⟩) (some ⟨q, 0, none⟩) na cp nb cq u size v hM.up hM.xa hs hM.hna (by omega) h)
  have CRD := hide (fun (v : World) (h : Below w.heap.size w v) => rwd_any m aa ab na ca nb cb u size v hM.up hM.xa hs hM.hna (by omega) (hM.la.below h))
  generalize unI m.up u size = U1 at CU CRU
  generalize unB m.up u size = U2 at CU CRU
  generalize wdI m.up m.ad u size = D1 at CD CRD
  generalize wdB m.up m.ad u size = D2 at CD CRD
  obtain ⟨up, sc, de, ga, b0, b1, b2, b3, lg, ad, be⟩ := m
  have HB := hide ((Below.refl w.heap.size w).alloc (Nat.le_refl _) (.cells #[.int .i64 up, .int .i64 sc, .int .i64 de, .int .i64 ga, .int .i64 b0, .int .i64 b1, .int .i64 b2, .int .i64 b3, .bool lg, .slice aa na ca, .slice ab nb cb] 28))
  have KV := hide (Blk.new w #[.int .i64 up, .int .i64 sc, .int .i64 de, .int .i64 ga, .int .i64 b0, .int .i64 b1, .int .i64 b2, .int .i64 b3, .bool lg, .slice aa na ca, .slice ab nb cb] 28)
  clear hM hu hs hl hna hnb
  simp only [mcs] at CL CC CU CRU CD CRD ⊢
  go_enter Try.func5, Try.ntmps5
  go_wp2_with fail
  generalize w.alloc (.cells #[.int .i64 up, .int .i64 sc, .int .i64 de, .int .i64 ga, .int .i64 b0, .int .i64 b1, .int .i64 b2, .int .i64 b3, .bool lg, .slice aa na ca, .slice ab nb cb] 28) = V at HB KV ⊢
  obtain ⟨x, hx⟩ : ∃ x, w.heap.size = x := ⟨_, rfl⟩
  have KV2 : Hid (Blk V x #[.int .i64 up, .int .i64 sc, .int .i64 de, .int .i64 ga, .int .i64 b0, .int .i64 b1, .int .i64 b2, .int .i64 b3, .bool lg, .slice aa na ca, .slice ab nb cb] 28) := hx ▸ KV
  rw [hx]
  have KC := hide (fun (u : World) (hu : Below V.heap.size V u) => KV2.out.below hu)
  have HV := hide (Below.refl V.heap.size V)
  have kk := KC.out _ HV.out
  clear KV KV2 hx
  have c0 := kk.cell 0
  have c1 := kk.cell 1
  have c2 := kk.cell 2
  have c3 := kk.cell 3
  have c4 := kk.cell 4
  have c5 := kk.cell 5
  have c6 := kk.cell 6
  have c7 := kk.cell 7
  have c8 := kk.cell 8
  have c9 := kk.cell 9
  have c10 := kk.cell 10
  simp at c0 c1 c2 c3 c4 c5 c6 c7 c8 c9 c10
  have xlt := kk.lt
  clear kk
  refine (CL.out _).mono ?_
  rintro e w1 ⟨rfl, hb⟩
  replace HV := hide (below_t5 HV.out hb)
  have kk := KC.out _ HV.out
  clear hb
  clear c0 c1 c2 c3 c4 c5 c6 c7 c8 c9 c10 xlt
  have c0 := kk.cell 0
  have c1 := kk.cell 1
  have c2 := kk.cell 2
  have c3 := kk.cell 3
  have c4 := kk.cell 4
  have c5 := kk.cell 5
  have c6 := kk.cell 6
  have c7 := kk.cell 7
  have c8 := kk.cell 8
  have c9 := kk.cell 9
  have c10 := kk.cell 10
  simp at c0 c1 c2 c3 c4 c5 c6 c7 c8 c9 c10
  have xlt := kk.lt
  clear kk
  go_wp2_with fail
  refine (CC.out _ (below_t5 HB.out HV.out)).mono ?_
  rintro e w2 ⟨p, q, cp, cq, rfl, _, _, hb⟩
  replace HV := hide (below_t5 HV.out hb)
  have kk := KC.out _ HV.out
  clear hb
  clear c0 c1 c2 c3 c4 c5 c6 c7 c8 c9 c10 xlt
  have c0 := kk.cell 0
  have c1 := kk.cell 1
  have c2 := kk.cell 2
  have c3 := kk.cell 3
  have c4 := kk.cell 4
  have c5 := kk.cell 5
  have c6 := kk.cell 6
  have c7 := kk.cell 7
  have c8 := kk.cell 8
  have c9 := kk.cell 9
  have c10 := kk.cell 10
  simp at c0 c1 c2 c3 c4 c5 c6 c7 c8 c9 c10
  have xlt := kk.lt
  clear kk
  go_wp2_with fail
  refine (CU.out p q cp cq _).mono ?_
  rintro e w3 ⟨rfl, hb⟩
  replace HV := hide (below_t5 HV.out hb)
  have kk := KC.out _ HV.out
  clear hb
  clear c0 c1 c2 c3 c4 c5 c6 c7 c8 c9 c10 xlt
  have c0 := kk.cell 0
  have c1 := kk.cell 1
  have c2 := kk.cell 2
  have c3 := kk.cell 3
  have c4 := kk.cell 4
  have c5 := kk.cell 5
  have c6 := kk.cell 6
  have c7 := kk.cell 7
  have c8 := kk.cell 8
  have c9 := kk.cell 9
  have c10 := kk.cell 10
  simp at c0 c1 c2 c3 c4 c5 c6 c7 c8 c9 c10
  have xlt := kk.lt
  clear kk
  go_wp2_with fail
  refine (CRU.out _).mono ?_
  rintro e w4 ⟨rfl, hb⟩
  replace HV := hide (below_t5 HV.out hb)
  have kk := KC.out _ HV.out
  clear hb
  clear c0 c1 c2 c3 c4 c5 c6 c7 c8 c9 c10 xlt
  have c0 := kk.cell 0
  have c1 := kk.cell 1
  have c2 := kk.cell 2
  have c3 := kk.cell 3
  have c4 := kk.cell 4
  have c5 := kk.cell 5
  have c6 := kk.cell 6
  have c7 := kk.cell 7
  have c8 := kk.cell 8
  have c9 := kk.cell 9
  have c10 := kk.cell 10
  simp at c0 c1 c2 c3 c4 c5 c6 c7 c8 c9 c10
  have xlt := kk.lt
  clear kk
  go_wp2_with fail
  refine (CC.out _ (below_t5 HB.out HV.out)).mono ?_
  rintro e w5 ⟨p2, q2, cp2, cq2, rfl, hl1, _, hb⟩
  have C5 := hide (CD.out p2 q2 cp2 cq2 w5 hl1)
  clear hl1
  replace HV := hide (below_t5 HV.out hb)
  have kk := KC.out _ HV.out
  clear hb
  clear c0 c1 c2 c3 c4 c5 c6 c7 c8 c9 c10 xlt
  have c0 := kk.cell 0
  have c1 := kk.cell 1
  have c2 := kk.cell 2
  have c3 := kk.cell 3
  have c4 := kk.cell 4
  have c5 := kk.cell 5
  have c6 := kk.cell 6
  have c7 := kk.cell 7
  have c8 := kk.cell 8
  have c9 := kk.cell 9
  have c10 := kk.cell 10
  simp at c0 c1 c2 c3 c4 c5 c6 c7 c8 c9 c10
  have xlt := kk.lt
  clear kk
  go_wp2_with fail
  refine C5.out.mono ?_
  rintro e w6 ⟨rfl, hb⟩
  replace HV := hide (below_t5 HV.out hb)
  have kk := KC.out _ HV.out
  clear hb
  clear c0 c1 c2 c3 c4 c5 c6 c7 c8 c9 c10 xlt
  have c0 := kk.cell 0
  have c1 := kk.cell 1
  have c2 := kk.cell 2
  have c3 := kk.cell 3
  have c4 := kk.cell 4
  have c5 := kk.cell 5
  have c6 := kk.cell 6
  have c7 := kk.cell 7
  have c8 := kk.cell 8
  have c9 := kk.cell 9
  have c10 := kk.cell 10
  simp at c0 c1 c2 c3 c4 c5 c6 c7 c8 c9 c10
  have xlt := kk.lt
  clear kk
  go_wp2_with fail
  refine (CRD.out _ (below_t5 HB.out HV.out)).mono ?_
  rintro e w7 ⟨rfl, hb⟩
  replace HV := hide (below_t5 HV.out hb)
  have kk := KC.out _ HV.out
  clear hb
  clear c0 c1 c2 c3 c4 c5 c6 c7 c8 c9 c10 xlt
  have c0 := kk.cell 0
  have c1 := kk.cell 1
  have c2 := kk.cell 2
  have c3 := kk.cell 3
  have c4 := kk.cell 4
  have c5 := kk.cell 5
  have c6 := kk.cell 6
  have c7 := kk.cell 7
  have c8 := kk.cell 8
  have c9 := kk.cell 9
  have c10 := kk.cell 10
  simp at c0 c1 c2 c3 c4 c5 c6 c7 c8 c9 c10
  have xlt := kk.lt
  clear kk
  go_wp2_with fail
  refine (CWK.out _).mono ?_
  rintro e w8 ⟨rfl, hb⟩
  replace HV := hide (below_t5 HV.out hb)
  clear hb
  go_wp2_with fail
  go_ret
  exact ⟨rfl, below_t5 HB.out HV.out⟩
end Go.Proofs.Ytmbhgeideoenhaa
