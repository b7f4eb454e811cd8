/-
  The law MetricsShort, walked.
-/
import Derived.Test.YtkdnoemakclmdaaM9Sr
namespace Go.Proofs.Ytkdnoemakclmdaa
open Go.RowKit Go.Deep
set_option linter.unusedVariables false

set_option maxRecDepth 8000 in
set_option maxHeartbeats 8000000 in
theorem short_out (m : Mt) (aa ab : Option Addr) (na ca nb cb : Nat) (z : Int) (w : World) (hM : MIn w m aa na ab nb) (hz : -9223372036854775808 ≤ z ∧ z ≤ 9223372036854775807) (ho : lrB na nb = true ∨ goodB m = false ∨ z < 1 ∨ (na : Int) < z) :
    Calls Try.prog 3 #[.agg (mcs m (.slice aa na ca) (.slice ab nb cb)), .int .i64 z] w fun e w' => e = .returned (.bool true) ∧ Below w.heap.size w w' := by
  have CL := hide (fun w => large_any m aa ab na ca nb cb w)
  have CWK := hide wakes9_any
  cases hl : lrB na nb
  case true =>
    rw [hl] at CL
    obtain ⟨up, sc, de, ga, b0, b1, b2, b3, lg, ad, be⟩ := m
    have HB := hide ((Below.refl w.heap.size w).alloc (Nat.le_refl _) (.cells #[.int .i64 up, .int .i64 sc, .int .i64 de, .int .i64 ga, .int .i64 b0, .int .i64 b1, .int .i64 b2, .int .i64 b3, .bool lg, .slice aa na ca, .slice ab nb cb] 25))
    have KV := hide (Blk.new w #[.int .i64 up, .int .i64 sc, .int .i64 de, .int .i64 ga, .int .i64 b0, .int .i64 b1, .int .i64 b2, .int .i64 b3, .bool lg, .slice aa na ca, .slice ab nb cb] 25)
    clear hM hl ho
    simp only [mcs] at CL ⊢
    go_enter Try.func3, Try.ntmps3
    go_wp2_with fail
    generalize w.alloc (.cells #[.int .i64 up, .int .i64 sc, .int .i64 de, .int .i64 ga, .int .i64 b0, .int .i64 b1, .int .i64 b2, .int .i64 b3, .bool lg, .slice aa na ca, .slice ab nb cb] 25) = V at HB KV ⊢
    obtain ⟨x, hx⟩ : ∃ x, w.heap.size = x := ⟨_, rfl⟩
    have KV2 : Hid (Blk V x #[.int .i64 up, .int .i64 sc, .int .i64 de, .int .i64 ga, .int .i64 b0, .int .i64 b1, .int .i64 b2, .int .i64 b3, .bool lg, .slice aa na ca, .slice ab nb cb] 25) := hx ▸ KV
    rw [hx]
    have KC := hide (fun (u : World) (hu : Below V.heap.size V u) => KV2.out.below hu)
    have HV := hide (Below.refl V.heap.size V)
    have kk := KC.out _ HV.out
    clear KV KV2 hx
    have c0 := kk.cell 0
    have c1 := kk.cell 1
    have c2 := kk.cell 2
    have c3 := kk.cell 3
    have c4 := kk.cell 4
    have c5 := kk.cell 5
    have c6 := kk.cell 6
    have c7 := kk.cell 7
    have c8 := kk.cell 8
    have c9 := kk.cell 9
    have c10 := kk.cell 10
    simp at c0 c1 c2 c3 c4 c5 c6 c7 c8 c9 c10
    have xlt := kk.lt
    clear kk
    refine (CL.out _).mono ?_
    rintro e w1 ⟨rfl, hb⟩
    replace HV := hide (below_t5 HV.out hb)
    have kk := KC.out _ HV.out
    clear hb
    clear c0 c1 c2 c3 c4 c5 c6 c7 c8 c9 c10 xlt
    have c0 := kk.cell 0
    have c1 := kk.cell 1
    have c2 := kk.cell 2
    have c3 := kk.cell 3
    have c4 := kk.cell 4
    have c5 := kk.cell 5
    have c6 := kk.cell 6
    have c7 := kk.cell 7
    have c8 := kk.cell 8
    have c9 := kk.cell 9
    have c10 := kk.cell 10
    simp at c0 c1 c2 c3 c4 c5 c6 c7 c8 c9 c10
    have xlt := kk.lt
    clear kk
    go_wp2_with fail
    refine (CWK.out _).mono ?_
    rintro e w2 ⟨rfl, hb⟩
    replace HV := hide (below_t5 HV.out hb)
    clear hb
    go_wp2_with fail
    go_ret
    exact ⟨rfl, below_t5 HB.out HV.out⟩
  rw [hl] at CL
  have hna : na ≤ 5000 := by unfold lrB at hl; simp at hl; omega
  have hnb : nb ≤ 5000 := by unfold lrB at hl; simp at hl; omega
  have CC := hide (fun (v : World) (h : Below w.heap.size w v) => cp_any m aa ab na ca nb cb v hM.hna hM.hnb (by omega) (by omega) (hM.la.below h) (hM.lb.below h))
  cases hgd : goodB m
  case false =>
    have CB := hide (fun (p q cp cq : Nat) (v : World) (h1 : Lst v (some ⟨p, 0, none⟩) m.ad) (h2 : Lst v (some ⟨q, 0, none⟩) m.be) => bld_bad m (some ⟨p, 0, none⟩) (some ⟨q, 0, none⟩) na nb cp cq v hM.hna hM.hnb (by omega) (by omega) h1 h2 hgd)
    obtain ⟨up, sc, de, ga, b0, b1, b2, b3, lg, ad, be⟩ := m
    have HB := hide ((Below.refl w.heap.size w).alloc (Nat.le_refl _) (.cells #[.int .i64 up, .int .i64 sc, .int .i64 de, .int .i64 ga, .int .i64 b0, .int .i64 b1, .int .i64 b2, .int .i64 b3, .bool lg, .slice aa na ca, .slice ab nb cb] 25))
    have KV := hide (Blk.new w #[.int .i64 up, .int .i64 sc, .int .i64 de, .int .i64 ga, .int .i64 b0, .int .i64 b1, .int .i64 b2, .int .i64 b3, .bool lg, .slice aa na ca, .slice ab nb cb] 25)
    clear hM hl hgd hna hnb ho
    simp only [mcs] at CL CC CB ⊢
    go_enter Try.func3, Try.ntmps3
    go_wp2_with fail
    generalize w.alloc (.cells #[.int .i64 up, .int .i64 sc, .int .i64 de, .int .i64 ga, .int .i64 b0, .int .i64 b1, .int .i64 b2, .int .i64 b3, .bool lg, .slice aa na ca, .slice ab nb cb] 25) = V at HB KV ⊢
    obtain ⟨x, hx⟩ : ∃ x, w.heap.size = x := ⟨_, rfl⟩
    have KV2 : Hid (Blk V x #[.int .i64 up, .int .i64 sc, .int .i64 de, .int .i64 ga, .int .i64 b0, .int .i64 b1, .int .i64 b2, .int .i64 b3, .bool lg, .slice aa na ca, .slice ab nb cb] 25) := hx ▸ KV
    rw [hx]
    have KC := hide (fun (u : World) (hu : Below V.heap.size V u) => KV2.out.below hu)
    have HV := hide (Below.refl V.heap.size V)
    have kk := KC.out _ HV.out
    clear KV KV2 hx
    have c0 := kk.cell 0
    have c1 := kk.cell 1
    have c2 := kk.cell 2
    have c3 := kk.cell 3
    have c4 := kk.cell 4
    have c5 := kk.cell 5
    have c6 := kk.cell 6
    have c7 := kk.cell 7
    have c8 := kk.cell 8
    have c9 := kk.cell 9
    have c10 := kk.cell 10
    simp at c0 c1 c2 c3 c4 c5 c6 c7 c8 c9 c10
    have xlt := kk.lt
    clear kk
    refine (CL.out _).mono ?_
    rintro e w1 ⟨rfl, hb⟩
    replace HV := hide (below_t5 HV.out hb)
    have kk := KC.out _ HV.out
    clear hb
    clear c0 c1 c2 c3 c4 c5 c6 c7 c8 c9 c10 xlt
    have c0 := kk.cell 0
    have c1 := kk.cell 1
    have c2 := kk.cell 2
    have c3 := kk.cell 3
    have c4 := kk.cell 4
    have c5 := kk.cell 5
    have c6 := kk.cell 6
    have c7 := kk.cell 7
    have c8 := kk.cell 8
    have c9 := kk.cell 9
    have c10 := kk.cell 10
    simp at c0 c1 c2 c3 c4 c5 c6 c7 c8 c9 c10
    have xlt := kk.lt
    clear kk
    go_wp2_with fail
    refine (CC.out _ (below_t5 HB.out HV.out)).mono ?_
    rintro e w2 ⟨p, q, cp, cq, rfl, hl1, hl2, hb⟩
    have C2 := hide (CB.out p q cp cq w2 hl1 hl2)
    clear hl1 hl2
    replace HV := hide (below_t5 HV.out hb)
    have kk := KC.out _ HV.out
    clear hb
    clear c0 c1 c2 c3 c4 c5 c6 c7 c8 c9 c10 xlt
    have c0 := kk.cell 0
    have c1 := kk.cell 1
    have c2 := kk.cell 2
    have c3 := kk.cell 3
    have c4 := kk.cell 4
    have c5 := kk.cell 5
    have c6 := kk.cell 6
    have c7 := kk.cell 7
    have c8 := kk.cell 8
    have c9 := kk.cell 9
    have c10 := kk.cell 10
    simp at c0 c1 c2 c3 c4 c5 c6 c7 c8 c9 c10
    have xlt := kk.lt
    clear kk
    go_wp2_with fail
    refine C2.out.mono ?_
    rintro e w3 ⟨rfl, hb⟩
    clear C2
    replace HV := hide (below_t5 HV.out hb)
    have kk := KC.out _ HV.out
    clear hb
    clear c0 c1 c2 c3 c4 c5 c6 c7 c8 c9 c10 xlt
    have c0 := kk.cell 0
    have c1 := kk.cell 1
    have c2 := kk.cell 2
    have c3 := kk.cell 3
    have c4 := kk.cell 4
    have c5 := kk.cell 5
    have c6 := kk.cell 6
    have c7 := kk.cell 7
    have c8 := kk.cell 8
    have c9 := kk.cell 9
    have c10 := kk.cell 10
    simp at c0 c1 c2 c3 c4 c5 c6 c7 c8 c9 c10
    have xlt := kk.lt
    clear kk
    go_wp2_with fail
    refine (CWK.out _).mono ?_
    rintro e w6 ⟨rfl, hb⟩
    replace HV := hide (below_t5 HV.out hb)
    clear hb
    go_wp2_with fail
    go_ret
    exact ⟨rfl, below_t5 HB.out HV.out⟩
  obtain ⟨g1, g2, g3, g4, g5, g6, g7⟩ := good_in hgd
  have hbn : nb = na := by have := hM.hna; have := hM.hnb; omega
  subst hbn
  have hzo : z < 1 ∨ (nb : Int) < z := by
    rcases ho with h | h | h
    · rw [hl] at h; simp at h
    · rw [hgd] at h; simp at h
    · exact h
  have CB := hide (fun (p q cp cq : Nat) (v : World) (h1 : Lst v (some ⟨p, 0, none⟩) m.ad) (h2 : Lst v (some ⟨q, 0, none⟩) m.be) => bld_any m (some ⟨p, 0, none⟩) (some ⟨q, 0, none⟩) nb cp cq v hM.hna hM.hnb h1 h2 hgd)
  have hn0 : (nb : Int) ≤ 5000 := by omega
  have hn1 : (0 : Int) ≤ (nb : Int) := by omega
  obtain ⟨S1, hS1, hs1⟩ : ∃ S : ByteArray, S = ⟨(hhT m nb).toArray⟩ ∧ S.size = 36 := ⟨_, rfl, by simp [ByteArray.size, hhT_len]⟩
  obtain ⟨S2, hS2, hs2⟩ : ∃ S : ByteArray, S = ⟨(hmT m.ad m.be nb).toArray⟩ ∧ S.size = 4 * nb := ⟨_, rfl, by simp [ByteArray.size, hmT_len]⟩
  have hs2' : (S2.size : Int) = 4 * (nb : Int) := by omega
  have hs1' : (S1.size : Int) = 36 := by omega
  obtain ⟨TC, hTC, ht3, ht5⟩ : ∃ TC : Array Value, TC = tabC m nb ∧ TC[3]? = some (.string S1) ∧ TC[5]? = some (.string S2) := ⟨_, rfl, by rw [hS1]; rfl, by rw [hS2]; rfl⟩
  rw [← hTC] at CB
  clear hTC hS1 hS2 hs1 hs2 ho
  obtain ⟨up, sc, de, ga, b0, b1, b2, b3, lg, ad, be⟩ := m
  have HB := hide ((Below.refl w.heap.size w).alloc (Nat.le_refl _) (.cells #[.int .i64 up, .int .i64 sc, .int .i64 de, .int .i64 ga, .int .i64 b0, .int .i64 b1, .int .i64 b2, .int .i64 b3, .bool lg, .slice aa nb ca, .slice ab nb cb] 25))
  have KV := hide (Blk.new w #[.int .i64 up, .int .i64 sc, .int .i64 de, .int .i64 ga, .int .i64 b0, .int .i64 b1, .int .i64 b2, .int .i64 b3, .bool lg, .slice aa nb ca, .slice ab nb cb] 25)
  clear hM hl hgd hna hnb g1 g2 g3 g4 g5 g6 g7
  simp only [mcs] at CL CC CB ⊢
  go_enter Try.func3, Try.ntmps3
  go_wp2_with fail
  generalize w.alloc (.cells #[.int .i64 up, .int .i64 sc, .int .i64 de, .int .i64 ga, .int .i64 b0, .int .i64 b1, .int .i64 b2, .int .i64 b3, .bool lg, .slice aa nb ca, .slice ab nb cb] 25) = V at HB KV ⊢
  obtain ⟨x, hx⟩ : ∃ x, w.heap.size = x := ⟨_, rfl⟩
  have KV2 : Hid (Blk V x #[.int .i64 up, .int .i64 sc, .int .i64 de, .int .i64 ga, .int .i64 b0, .int .i64 b1, .int .i64 b2, .int .i64 b3, .bool lg, .slice aa nb ca, .slice ab nb cb] 25) := hx ▸ KV
  rw [hx]
  have KC := hide (fun (u : World) (hu : Below V.heap.size V u) => KV2.out.below hu)
  have HV := hide (Below.refl V.heap.size V)
  have kk := KC.out _ HV.out
  clear KV KV2 hx
  have c0 := kk.cell 0
  have c1 := kk.cell 1
  have c2 := kk.cell 2
  have c3 := kk.cell 3
  have c4 := kk.cell 4
  have c5 := kk.cell 5
  have c6 := kk.cell 6
  have c7 := kk.cell 7
  have c8 := kk.cell 8
  have c9 := kk.cell 9
  have c10 := kk.cell 10
  simp at c0 c1 c2 c3 c4 c5 c6 c7 c8 c9 c10
  have xlt := kk.lt
  clear kk
  refine (CL.out _).mono ?_
  rintro e w1 ⟨rfl, hb⟩
  replace HV := hide (below_t5 HV.out hb)
  have kk := KC.out _ HV.out
  clear hb
  clear c0 c1 c2 c3 c4 c5 c6 c7 c8 c9 c10 xlt
  have c0 := kk.cell 0
  have c1 := kk.cell 1
  have c2 := kk.cell 2
  have c3 := kk.cell 3
  have c4 := kk.cell 4
  have c5 := kk.cell 5
  have c6 := kk.cell 6
  have c7 := kk.cell 7
  have c8 := kk.cell 8
  have c9 := kk.cell 9
  have c10 := kk.cell 10
  simp at c0 c1 c2 c3 c4 c5 c6 c7 c8 c9 c10
  have xlt := kk.lt
  clear kk
  go_wp2_with fail
  refine (CC.out _ (below_t5 HB.out HV.out)).mono ?_
  rintro e w2 ⟨p0, q0, cp0, cq0, rfl, hl1, hl2, hb⟩
  have C2 := hide (CB.out p0 q0 cp0 cq0 w2 hl1 hl2)
  clear hl1 hl2
  replace HV := hide (below_t5 HV.out hb)
  have kk := KC.out _ HV.out
  clear hb
  clear c0 c1 c2 c3 c4 c5 c6 c7 c8 c9 c10 xlt
  have c0 := kk.cell 0
  have c1 := kk.cell 1
  have c2 := kk.cell 2
  have c3 := kk.cell 3
  have c4 := kk.cell 4
  have c5 := kk.cell 5
  have c6 := kk.cell 6
  have c7 := kk.cell 7
  have c8 := kk.cell 8
  have c9 := kk.cell 9
  have c10 := kk.cell 10
  simp at c0 c1 c2 c3 c4 c5 c6 c7 c8 c9 c10
  have xlt := kk.lt
  clear kk
  go_wp2_with fail
  refine C2.out.mono ?_
  rintro e w3 ⟨g, rfl, hkg, _, hb⟩
  have e3 := hkg.cell 3
  have e5 := hkg.cell 5
  rw [ht3] at e3
  rw [ht5] at e5
  have glt := hkg.lt
  clear C2 hkg
  replace HV := hide (below_t5 HV.out hb)
  have kk := KC.out _ HV.out
  clear hb
  clear c0 c1 c2 c3 c4 c5 c6 c7 c8 c9 c10 xlt
  have c0 := kk.cell 0
  have c1 := kk.cell 1
  have c2 := kk.cell 2
  have c3 := kk.cell 3
  have c4 := kk.cell 4
  have c5 := kk.cell 5
  have c6 := kk.cell 6
  have c7 := kk.cell 7
  have c8 := kk.cell 8
  have c9 := kk.cell 9
  have c10 := kk.cell 10
  simp at c0 c1 c2 c3 c4 c5 c6 c7 c8 c9 c10
  have xlt := kk.lt
  clear kk
  have hm4 : IntKind.i64.wrap (4 * (nb : Int)) = 4 * (nb : Int) := by rw [IntKind.wrap_i64]; omega
  rcases hzo with hz1 | hz1
  · go_wp2_with fail
    refine (CWK.out _).mono ?_
    rintro e w6 ⟨rfl, hb⟩
    replace HV := hide (below_t5 HV.out hb)
    clear hb
    go_wp2_with fail
    go_ret
    exact ⟨rfl, below_t5 HB.out HV.out⟩
  · have hz2 : ¬ z < 1 := by omega
    go_wp2_with fail
    refine (CWK.out _).mono ?_
    rintro e w6 ⟨rfl, hb⟩
    replace HV := hide (below_t5 HV.out hb)
    clear hb
    go_wp2_with fail
    go_ret
    exact ⟨rfl, below_t5 HB.out HV.out⟩
end Go.Proofs.Ytkdnoemakclmdaa
