/-
  The law FaceLoads, walked.
-/
import Derived.Test.YtpaadbnlhapdbaaGreatDoorL38
import Derived.Test.YtpaadbnlhapdbaaGreatDoorL48
namespace Go.Proofs.YtpaadbnlhapdbaaGreatDoor.F12
open Go.RowKit Go.Deep
set_option linter.unusedVariables false
set_option linter.unusedSimpArgs false

/- both answer one face and one error -/
def BoF (m : Mt) (gs : List ByteArray) (cs : List C11.Ch) (na nb ng nc : Nat) (er : Int) (w : World) (e : Ending) (w' : World) : Prop := Below w.heap.size w w' ∧ ∃ a1 c1 a2 c2 ga gc ca cc, e = .returned (.tuple #[.agg (fcs m (.slice a1 na c1) (.slice a2 nb c2) (.slice ga ng gc) (.slice ca nc cc)), .int .i64 er]) ∧ Lst w' a1 m.ad ∧ Lst w' a2 m.be ∧ G10.SLst w' ga gs ∧ C11.CLst w' ca cs
theorem both_load (s : ByteArray) (hs : s.size ≤ 1000000) : ∃ (m : Mt) (gs : List ByteArray) (cs : List C11.Ch) (na nb ng nc : Nat) (er : Int), m.ad.length = na ∧ m.be.length = nb ∧ gs.length = ng ∧ cs.length = nc ∧ na ≤ 4096 ∧ nb ≤ 4096 ∧ ng ≤ 4096 ∧ nc ≤ 4096 ∧
    (∀ w, S8.Glo8 w → Calls Tryz.prog 5 #[.string s] w (BoF m gs cs na nb ng nc er w)) ∧ (∀ w, Calls Tryz.prog 6 #[.string s] w (BoF m gs cs na nb ng nc er w)) := by
  cases h : ldV s with
  | error er =>
    refine ⟨zM, [], [], 0, 0, 0, 0, er, rfl, rfl, rfl, rfl, by omega, by omega, by omega, by omega, fun w hG => (load_any s w hs hG).mono ?_, fun w => (rload_any s w hs).mono ?_⟩
    · rintro e w' ⟨hb, hm⟩
      rw [h] at hm
      exact ⟨hb, none, 0, none, 0, none, 0, none, 0, hm.2, Or.inl rfl, Or.inl rfl, Or.inl rfl, Or.inl rfl⟩
    · rintro e w' ⟨hb, hm⟩
      rw [h] at hm
      exact ⟨hb, none, 0, none, 0, none, 0, none, 0, hm.2, Or.inl rfl, Or.inl rfl, Or.inl rfl, Or.inl rfl⟩
  | ok r =>
    obtain ⟨m, gs, cs⟩ := r
    have hcs : cs.length ≤ 4096 := by
      unfold ldV at h
      split at h
      · split at h
        · cases h
        · split at h
          · cases h
          · split at h
            · cases h
            · rename_i cs' hch
              split at h
              · rename_i hck
                injection h with h
                injection h with h1 h2
                injection h2 with h2 h3
                subst h3
                exact (C11.gooB_iff.1 (ck_in hck).2.2.2).1
              · cases h
      · cases h
    have hin : m.be.length = m.ad.length ∧ m.ad.length ≤ 4096 ∧ gs.length = m.ad.length := by
      unfold ldV at h
      split at h
      · split at h
        · cases h
        · split at h
          · cases h
          · split at h
            · cases h
            · split at h
              · rename_i hck
                injection h with h
                injection h with h1 h2
                injection h2 with h2 h3
                subst h1 h2
                obtain ⟨g1, g2, g3, _⟩ := ck_in hck
                exact ⟨(good_in g1).2.2.2.2.1, by omega, g2⟩
              · cases h
      · cases h
    refine ⟨m, gs, cs, m.ad.length, m.be.length, gs.length, cs.length, 0, rfl, rfl, rfl, rfl, by omega, by omega, by omega, hcs, fun w hG => (load_any s w hs hG).mono ?_, fun w => (rload_any s w hs).mono ?_⟩
    · rintro e w' ⟨hb, hm⟩
      rw [h] at hm
      obtain ⟨p, q, g, ca, cc, k, e1, e2, _, e3, _, _, he, i1, i2, i3, i4⟩ := hm
      exact ⟨hb, some ⟨p, 0, none⟩, k, some ⟨q, 0, none⟩, k, some ⟨g, 0, none⟩, k, ca, cc, by rw [e1, e2, e3]; exact he, i1, i2, i3, i4⟩
    · rintro e w' ⟨hb, hm⟩
      rw [h] at hm
      obtain ⟨a1, c1, a2, c2, ga, gc, ca, cc, k, nc, e1, e2, _, e3, e4, he, i1, i2, i3, i4⟩ := hm
      exact ⟨hb, a1, c1, a2, c2, ga, gc, ca, cc, by rw [e1, e2, e3, e4]; exact he, i1, i2, i3, i4⟩
set_option maxRecDepth 8000 in
set_option maxHeartbeats 16000000 in
theorem loads_walk (s : ByteArray) (w : World) (hm : s.size ≤ 9223372036854775807) (hW : S8.Glo8 w) :
    Calls Tryz.prog 3 #[.string s] w fun e w' => e = .returned (.bool true) ∧ Below w.heap.size w w' := by
  have CW := hide (fun (u : World) (hu : Below w.heap.size w u) => wakes12_any u (hW.below hu))
  have hm' : (s.size : Int) ≤ 9223372036854775807 := by omega
  by_cases hs : 30000 < s.size
  · have hs' : (30000 : Int) < (s.size : Int) := by omega
    clear hW hm hs
    go_enter Tryz.func3, Tryz.ntmps3
    go_wp2_with fail
    refine (CW.out _ (Below.refl _ _)).mono ?_
    rintro e w2 ⟨rfl, h2⟩
    have HB2 := hide h2
    clear h2
    go_wp2_with fail
    go_ret
    exact ⟨rfl, HB2.out⟩
  have hs' : ¬ (30000 : Int) < (s.size : Int) := by omega
  obtain ⟨m, gs, cs, na, nb, ng, nc, er, hna, hnb, hng, hnc, g1, g2, g3, g4, CA, CB⟩ := both_load s (by omega)
  have C1 := hide (CA w hW)
  have C2 := hide CB
  have C3 := hide (fun (p q g c p2 q2 g2 c2 : Option Addr) (k1 k2 k3 k4 k5 k6 k7 k8 : Nat) (u : World) (i1 : Lst u p m.ad) (j1 : Lst u p2 m.ad) (i2 : Lst u q m.be) (j2 : Lst u q2 m.be) (i3 : G10.SLst u g gs) (j3 : G10.SLst u g2 gs) (i4 : C11.CLst u c cs) (j4 : C11.CLst u c2 cs) => rsame_any m p p2 q q2 g g2 c c2 na nb ng nc k1 k2 k3 k4 k5 k6 k7 k8 gs cs u hna hnb hng hnc (by omega) (by omega) (by omega) (by omega) i1 j1 i2 j2 i3 j3 i4 j4)
  obtain ⟨up, sc, de, gap, b0, b1, b2, b3, lg, ad, be⟩ := m
  simp only [fcs, BoF] at C1 C2 C3
  clear hW hm hs CA CB hna hnb hng hnc g1 g2 g3 g4
  go_enter Tryz.func3, Tryz.ntmps3
  go_wp2_with fail
  refine C1.out.mono ?_
  rintro e w1 ⟨h1, a1, c1, a2, c2, ga, gc, ca, cc, rfl, i1, i2, i3, i4⟩
  have b1' := (Below.refl w1.heap.size w1).alloc (Nat.le_refl _) (.cells #[.int .i64 up, .int .i64 sc, .int .i64 de, .int .i64 gap, .int .i64 b0, .int .i64 b1, .int .i64 b2, .int .i64 b3, .bool lg, .slice a1 na c1, .slice a2 nb c2, .slice ga ng gc, .slice ca nc cc] 30)
  have k1 := Blk.new w1 #[.int .i64 up, .int .i64 sc, .int .i64 de, .int .i64 gap, .int .i64 b0, .int .i64 b1, .int .i64 b2, .int .i64 b3, .bool lg, .slice a1 na c1, .slice a2 nb c2, .slice ga ng gc, .slice ca nc cc] 30
  have h1 := below_t5 h1 b1'
  have i1 := i1.below b1'
  have i2 := i2.below b1'
  have i3 := i3.below b1'
  have i4 := i4.below b1'
  go_upto_region 4 with (fail)
  generalize w1.alloc (.cells #[.int .i64 up, .int .i64 sc, .int .i64 de, .int .i64 gap, .int .i64 b0, .int .i64 b1, .int .i64 b2, .int .i64 b3, .bool lg, .slice a1 na c1, .slice a2 nb c2, .slice ga ng gc, .slice ca nc cc] 30) = V at b1' k1 h1 i1 i2 i3 i4 ⊢
  obtain ⟨X, hX⟩ : ∃ X, w1.heap.size = X := ⟨_, rfl⟩
  rw [hX] at k1 ⊢
  have HKX := hide k1
  have HB1 := hide h1
  have HI := hide (And.intro i1 (And.intro i2 (And.intro i3 i4)))
  clear b1' k1 h1 i1 i2 i3 i4 hX C1
  go_wp2_with fail
  refine (C2.out _).mono ?_
  rintro e w2 ⟨h2, d1, e1, d2, e2, gd, ge, cd, ce, rfl, j1, j2, j3, j4⟩
  have b2' := (Below.refl w2.heap.size w2).alloc (Nat.le_refl _) (.cells #[.int .i64 up, .int .i64 sc, .int .i64 de, .int .i64 gap, .int .i64 b0, .int .i64 b1, .int .i64 b2, .int .i64 b3, .bool lg, .slice d1 na e1, .slice d2 nb e2, .slice gd ng ge, .slice cd nc ce] 30)
  have k2 := Blk.new w2 #[.int .i64 up, .int .i64 sc, .int .i64 de, .int .i64 gap, .int .i64 b0, .int .i64 b1, .int .i64 b2, .int .i64 b3, .bool lg, .slice d1 na e1, .slice d2 nb e2, .slice gd ng ge, .slice cd nc ce] 30
  have h2 := below_t5 h2 b2'
  have j1 := j1.below b2'
  have j2 := j2.below b2'
  have j3 := j3.below b2'
  have j4 := j4.below b2'
  go_upto_region 5 with (fail)
  generalize w2.alloc (.cells #[.int .i64 up, .int .i64 sc, .int .i64 de, .int .i64 gap, .int .i64 b0, .int .i64 b1, .int .i64 b2, .int .i64 b3, .bool lg, .slice d1 na e1, .slice d2 nb e2, .slice gd ng ge, .slice cd nc ce] 30) = U at b2' k2 h2 j1 j2 j3 j4 ⊢
  obtain ⟨Y, hY⟩ : ∃ X, w2.heap.size = X := ⟨_, rfl⟩
  rw [hY] at k2 ⊢
  have kx := HKX.out.below h2
  have x0 := kx.cell 0
  have x1 := kx.cell 1
  have x2 := kx.cell 2
  have x3 := kx.cell 3
  have x4 := kx.cell 4
  have x5 := kx.cell 5
  have x6 := kx.cell 6
  have x7 := kx.cell 7
  have x8 := kx.cell 8
  have x9 := kx.cell 9
  have x10 := kx.cell 10
  have x11 := kx.cell 11
  have x12 := kx.cell 12
  simp at x0 x1 x2 x3 x4 x5 x6 x7 x8 x9 x10 x11 x12
  have y0 := k2.cell 0
  have y1 := k2.cell 1
  have y2 := k2.cell 2
  have y3 := k2.cell 3
  have y4 := k2.cell 4
  have y5 := k2.cell 5
  have y6 := k2.cell 6
  have y7 := k2.cell 7
  have y8 := k2.cell 8
  have y9 := k2.cell 9
  have y10 := k2.cell 10
  have y11 := k2.cell 11
  have y12 := k2.cell 12
  simp at y0 y1 y2 y3 y4 y5 y6 y7 y8 y9 y10 y11 y12
  have xlt := kx.lt
  have ylt := k2.lt
  have CS := hide (C3.out a1 a2 ga ca d1 d2 gd cd c1 c2 gc cc e1 e2 ge ce U (HI.out.1.below h2) j1 (HI.out.2.1.below h2) j2 (HI.out.2.2.1.below h2) j3 (HI.out.2.2.2.below h2) j4)
  have HB2 := hide (below_t5 HB1.out h2)
  clear b2' k2 h2 j1 j2 j3 j4 hY kx HKX HB1 HI C2 C3
  go_wp2_with fail
  refine CS.out.mono ?_
  rintro e w3 ⟨rfl, h3⟩
  have HB3 := hide (below_t5 HB2.out h3)
  clear h3 HB2 CS xlt ylt x0 x1 x2 x3 x4 x5 x6 x7 x8 x9 x10 x11 x12 y0 y1 y2 y3 y4 y5 y6 y7 y8 y9 y10 y11 y12
  go_wp2_with fail
  refine (CW.out _ HB3.out).mono ?_
  rintro e w4 ⟨rfl, h4⟩
  have HB4 := hide (below_t5 HB3.out h4)
  clear h4
  go_wp2_with fail
  go_ret
  exact ⟨rfl, HB4.out⟩
end Go.Proofs.YtpaadbnlhapdbaaGreatDoor.F12
