/-
  The law FaceAdds, walked.
-/
import Derived.Deep.RegionHeld3
import Derived.Test.YtpdfpbbamnhkfaaGreatDoorX31
import Derived.Test.YtpdfpbbamnhkfaaGreatDoorX34
import Derived.Test.YtpdfpbbamnhkfaaGreatDoorX44
namespace Go.Proofs.YtpdfpbbamnhkfaaGreatDoor.F12
open Go.RowKit Go.Deep
set_option linter.unusedVariables false
set_option linter.unusedSimpArgs false

theorem Lst.dropN {w : World} {g : Nat} {zs : List Int} (h : Lst w (some ⟨g, 0, none⟩) zs) (k : Nat) : Lst w (some ⟨g, k, none⟩) (zs.drop k) := by
  rcases h with h | ⟨b, o, h1, h2, h3⟩
  · exact Or.inl (by rw [h]; simp)
  · obtain ⟨rfl, rfl⟩ : g = b ∧ 0 = o := by simpa using h1
    refine Or.inr ⟨g, k, rfl, h2, fun i hi => ?_⟩
    have hi' : k + i < zs.length := by rw [List.length_drop] at hi; omega
    have := h3 (k + i) hi'
    rw [Nat.zero_add] at this
    rw [this, List.getD_eq_getElem?_getD, List.getD_eq_getElem?_getD, List.getElem?_drop]
set_option maxRecDepth 8000 in
set_option maxHeartbeats 16000000 in
theorem adds_walk (m : Mt) (aa ab ga ca : Option Addr) (ka kb kg kc : Nat) (gs : List ByteArray) (cs : List C11.Ch) (la : Option Addr) (kl : Nat) (zs : List Int) (size : Int) (at_ : Int) (w : World) (hat : -9223372036854775808 ≤ at_ ∧ at_ ≤ 9223372036854775807) (hF : FIn w m aa ab ga ca gs cs) (hA : AIn w la kl zs size) (hW : S8.Glo8 w) :
    Calls Tryz.prog 8 #[.agg (acs m (.slice aa m.ad.length ka) (.slice ab m.be.length kb) (.slice ga gs.length kg) (.slice ca cs.length kc) (.slice la zs.length kl) size), .int .i64 at_] w fun e w' => e = .returned (.bool true) ∧ Below w.heap.size w w' := by
  obtain ⟨nl, hnl⟩ : ∃ n, zs.length = n := ⟨_, rfl⟩
  rw [hnl]
  obtain ⟨na, hna⟩ : ∃ n, m.ad.length = n := ⟨_, rfl⟩
  obtain ⟨nb, hnb⟩ : ∃ n, m.be.length = n := ⟨_, rfl⟩
  obtain ⟨ng, hng⟩ : ∃ n, gs.length = n := ⟨_, rfl⟩
  obtain ⟨nc, hnc⟩ : ∃ n, cs.length = n := ⟨_, rfl⟩
  rw [hna, hnb, hng, hnc]
  have CW := hide (fun (u : World) (hu : Below w.heap.size w u) => wakes12_any u (hW.below hu))
  have CL := hide (fun (u : World) (hu : Below w.heap.size w u) => large_any m aa ab ga ca na nb ng nc ka kb kg kc gs u hng (by have := hF.mg; omega) (fun g hg => Nat.le_trans (hF.sg g hg) (by omega)) (hF.lg.below hu))
  have bF := (Below.refl w.heap.size w).alloc (Nat.le_refl _) (.cells (acs m (.slice aa na ka) (.slice ab nb kb) (.slice ga ng kg) (.slice ca nc kc) (.slice la nl kl) size) 47)
  have kF := Blk.new w (acs m (.slice aa na ka) (.slice ab nb kb) (.slice ga ng kg) (.slice ca nc kc) (.slice la nl kl) size) 47
  obtain ⟨LB, hLB⟩ : ∃ b, lrgB (lsum gs 0) ng nc na nb = b := ⟨_, rfl⟩
  rw [hLB] at CL
  have HIN := hide (fun h : LB = false => lrg_in (hLB.trans h) hng)
  have CC := hide (fun (g1 : ng ≤ 200) (g2 : nc ≤ 200) (g3 : na ≤ 200) (g4 : nb ≤ 200) (u : World) (hu : Below w.heap.size w u) => copy_any m aa ab ga ca na nb ng nc ka kb kg kc gs cs u hna hnb hng hnc (by omega) (by omega) (by omega) (by omega) (hF.la.below hu) (hF.lb.below hu) (hF.lg.below hu) (hF.lc.below hu))
  have CI := hide (fun (u : World) (hu : Below w.heap.size w u) => ints_any la nl kl zs u hnl (by have := hA.cap; omega) hA.cap.2 (hA.lst.below hu))
  have CI2 := hide (fun (g : Option Addr) (n c : Nat) (ys : List Int) (u : World) (h1 : ys.length = n) (h2 : n ≤ c) (h3 : c ≤ 9223372036854775807) (h4 : Lst u g ys) => ints_any g n c ys u h1 h2 h3 h4)
  have CLg := hide (fun (g3 : na ≤ 200) (p q g : Option Addr) (kp kq : Nat) (vg vc : Value) (n c : Nat) (ys : List Int) (u : World) (h1 : ys.length = n) (h2 : n ≤ 200) (i1 : Lst u p m.ad) (i2 : Lst u g ys) => long_any m p na kp q nb kq vg vc g n c ys size u h1 (by omega) hF.up hF.xa hA.size hna (by omega) i1 i2)
  have CGd := hide (fun (g3 : na ≤ 200) (g4 : nb ≤ 200) (u : World) (hu : Below w.heap.size w u) => Go.Proofs.YtpdfpbbamnhkfaaGreatDoor.rgood_any m aa ab na ka nb kb u (hF.met hna hnb hu) (by omega) (by omega))
  have HTW := hide (fun (hg : goodB m = true) (l1 l2 : List Int) => lg_two (m := m) (size := size) hg l1 l2 rfl rfl rfl)
  obtain ⟨GB, hGB⟩ : ∃ b, goodB m = b := ⟨_, rfl⟩
  rw [hGB] at CGd HTW
  obtain ⟨up, sc, de, gap, b0, b1, b2, b3, lg, ad, be⟩ := m
  simp only [fcs, acs, mcs, CoR, lgV_is] at CC CLg CGd HTW CL bF kF ⊢
  have HKF := hide kF
  have HBF := hide bF
  have x0 := kF.cell 0
  have x1 := kF.cell 1
  have x2 := kF.cell 2
  have x3 := kF.cell 3
  have x4 := kF.cell 4
  have x5 := kF.cell 5
  have x6 := kF.cell 6
  have x7 := kF.cell 7
  have x8 := kF.cell 8
  have x9 := kF.cell 9
  have x10 := kF.cell 10
  have x11 := kF.cell 11
  have x12 := kF.cell 12
  simp at x0 x1 x2 x3 x4 x5 x6 x7 x8 x9 x10 x11 x12
  have flt := kF.lt
  clear kF bF hLB hF hA hW hna hnb hng hnc hnl hGB
  go_enter Tryz.func8, Tryz.ntmps8
  go_wp2_with fail
  refine (CL.out _ HBF.out).mono ?_
  rintro e w1 ⟨rfl, h1⟩
  have HB1 := hide (below_t5 HBF.out h1)
  have HK1 := hide (HKF.out.below h1)
  clear h1 HKF HBF CL flt x0 x1 x2 x3 x4 x5 x6 x7 x8 x9 x10 x11 x12
  cases LB with
  | true =>
    go_wp2_with fail
    refine (CW.out _ HB1.out).mono ?_
    rintro e w2 ⟨rfl, h2⟩
    have HB2 := hide (below_t5 HB1.out h2)
    clear h2
    go_wp2_with fail
    go_ret
    exact ⟨rfl, HB2.out⟩
  | false =>
    obtain ⟨g1, g2, g3, g4, g5, g6⟩ := HIN.out rfl
    have hk := HK1.out
    have x0 := hk.cell 0
    have x1 := hk.cell 1
    have x2 := hk.cell 2
    have x3 := hk.cell 3
    have x4 := hk.cell 4
    have x5 := hk.cell 5
    have x6 := hk.cell 6
    have x7 := hk.cell 7
    have x8 := hk.cell 8
    have x9 := hk.cell 9
    have x10 := hk.cell 10
    have x11 := hk.cell 11
    have x12 := hk.cell 12
    have x13 := hk.cell 13
    have x14 := hk.cell 14
    simp at x0 x1 x2 x3 x4 x5 x6 x7 x8 x9 x10 x11 x12 x13 x14
    have flt := hk.lt
    have CG1 := hide (CGd.out g3 g4 w1 HB1.out)
    clear hk CGd
    go_wp2_with fail
    refine CG1.out.mono ?_
    rintro e w1b ⟨rfl, h1b⟩
    have HB1b := hide (below_t5 HB1.out h1b)
    have HK1b := hide (HK1.out.below h1b)
    clear h1b CG1 HB1 HK1 flt x0 x1 x2 x3 x4 x5 x6 x7 x8 x9 x10 x11 x12 x13 x14
    cases GB with
    | false =>
      go_wp2_with fail
      refine (CW.out _ HB1b.out).mono ?_
      rintro e w2 ⟨rfl, h2⟩
      have HB2 := hide (below_t5 HB1b.out h2)
      clear h2
      go_wp2_with fail
      go_ret
      exact ⟨rfl, HB2.out⟩
    | true =>
    have hk := HK1b.out
    have x0 := hk.cell 0
    have x1 := hk.cell 1
    have x2 := hk.cell 2
    have x3 := hk.cell 3
    have x4 := hk.cell 4
    have x5 := hk.cell 5
    have x6 := hk.cell 6
    have x7 := hk.cell 7
    have x8 := hk.cell 8
    have x9 := hk.cell 9
    have x10 := hk.cell 10
    have x11 := hk.cell 11
    have x12 := hk.cell 12
    have x13 := hk.cell 13
    have x14 := hk.cell 14
    simp at x0 x1 x2 x3 x4 x5 x6 x7 x8 x9 x10 x11 x12 x13 x14
    have flt := hk.lt
    have CI1 := hide (CI.out w1b HB1b.out)
    clear hk CI
    go_wp2_with fail
    refine CI1.out.mono ?_
    rintro e w2 ⟨g0, c0, rfl, hl0, h2, hc0, hc1⟩
    have hys : (zs.take 200).length ≤ 200 := by rw [List.length_take]; omega
    generalize zs.take 200 = ys at hl0 hc0 hys ⊢
    obtain ⟨n, hn⟩ : ∃ n, ys.length = n := ⟨_, rfl⟩
    rw [hn] at hc0 hys ⊢
    have HKA := hide (HK1b.out.below h2)
    have HBA := hide (below_t5 HB1b.out h2)
    have HL0 := hide hl0
    have hmb := modV_bd at_ ((n : Int) + 1) (by omega)
    have CM := hide (fun (u : World) => mod_any at_ ((n : Int) + 1) u (by omega) (by omega) hat.1 hat.2)
    obtain ⟨k, hk⟩ : ∃ k : Nat, modV at_ ((n : Int) + 1) = (k : Int) := ⟨(modV at_ ((n : Int) + 1)).toNat, by omega⟩
    rw [hk] at hmb CM
    have hkn : k ≤ n := by omega
    have hkn' : (k : Int) ≤ (n : Int) := by omega
    have hk0 : (0 : Int) ≤ (k : Int) := by omega
    have hnc' : (n : Int) ≤ (c0 : Int) := by omega
    have hkc' : (k : Int) ≤ (c0 : Int) := by omega
    have hn200 : (n : Int) ≤ 200 := by omega
    have CC1 := hide (fun (u : World) (hu : Below w2.heap.size w2 u) => CC.out g1 g2 g3 g4 u (below_t5 HBA.out hu))
    have CVx := hide (fun (u : World) (hu : Below w2.heap.size w2 u) => CW.out u (below_t5 HBA.out hu))
    have CIa : Hid (∀ (u : World), Below w2.heap.size w2 u → Calls Tryz.prog 19 #[.slice (some ⟨g0, 0, none⟩) k c0, .int .i64 200] u (fun e w' => ∃ g c', e = .returned (.slice (some ⟨g, 0, none⟩) k c') ∧ Lst w' (some ⟨g, 0, none⟩) (ys.take k) ∧ Below u.heap.size u w')) := hide fun u hu => (CI2.out (some ⟨g0, 0, none⟩) k c0 (ys.take k) u (by rw [List.length_take]; omega) (by omega) hc1 ((HL0.out.take k).below hu)).mono fun e w' ⟨g, c', he, hl, hb, _⟩ => by
      have hl1 : (ys.take k).take 200 = ys.take k := List.take_of_length_le (by rw [List.length_take]; omega)
      have hl2 : (ys.take k).length = k := by rw [List.length_take]; omega
      rw [hl1] at he hl
      rw [hl2] at he
      exact ⟨g, c', he, hl, hb⟩
    have CIb : Hid (∀ (u : World), Below w2.heap.size w2 u → Calls Tryz.prog 19 #[.slice (some ⟨g0, k, none⟩) (n - k) (c0 - k), .int .i64 200] u (fun e w' => ∃ g c', e = .returned (.slice (some ⟨g, 0, none⟩) (n - k) c') ∧ Lst w' (some ⟨g, 0, none⟩) (ys.drop k) ∧ Below u.heap.size u w')) := hide fun u hu => (CI2.out (some ⟨g0, k, none⟩) (n - k) (c0 - k) (ys.drop k) u (by rw [List.length_drop]; omega) (by omega) (by omega) ((Lst.dropN HL0.out k).below hu)).mono fun e w' ⟨g, c', he, hl, hb, _⟩ => by
      have hl1 : (ys.drop k).take 200 = ys.drop k := List.take_of_length_le (by rw [List.length_drop]; omega)
      have hl2 : (ys.drop k).length = n - k := by rw [List.length_drop]; omega
      rw [hl1] at he hl
      rw [hl2] at he
      exact ⟨g, c', he, hl, hb⟩
    have HDR := hide (show c0 = k → ys.drop k = [] from fun h => List.drop_eq_nil_of_le (by omega))
    have CIz : Hid (c0 = k → ∀ (u : World), Calls Tryz.prog 19 #[.slice (some ⟨g0, 0, none⟩) 0 0, .int .i64 200] u (fun e w' => ∃ g c', e = .returned (.slice (some ⟨g, 0, none⟩) 0 c') ∧ Lst w' (some ⟨g, 0, none⟩) (ys.drop k) ∧ Below u.heap.size u w')) := hide fun h u => (CI2.out (some ⟨g0, 0, none⟩) 0 0 [] u rfl (by omega) (by omega) (Or.inl rfl)).mono fun e w' ⟨g, c', he, hl, hb, _⟩ => ⟨g, c', he, by rw [HDR.out h]; exact Or.inl rfl, hb⟩
    have CLz : Hid (c0 = k → ∀ (p q g : Option Addr) (kp kq : Nat) (vg vc : Value) (c : Nat) (u : World) (i1 : Lst u p ad) (i2 : Lst u g (ys.drop k)), _) := hide (fun h p q g kp kq vg vc c u i1 i2 => CLg.out g3 p q g kp kq vg vc 0 c (ys.drop k) u (by rw [HDR.out h]; rfl) (by omega) i1 i2)
    have CLa := hide (fun (p q g : Option Addr) (kp kq : Nat) (vg vc : Value) (c : Nat) (u : World) (i1 : Lst u p ad) (i2 : Lst u g (ys.take k)) => CLg.out g3 p q g kp kq vg vc k c (ys.take k) u (by rw [List.length_take]; omega) (by omega) i1 i2)
    have CLb := hide (fun (p q g : Option Addr) (kp kq : Nat) (vg vc : Value) (c : Nat) (u : World) (i1 : Lst u p ad) (i2 : Lst u g (ys.drop k)) => CLg.out g3 p q g kp kq vg vc (n - k) c (ys.drop k) u (by rw [List.length_drop]; omega) (by omega) i1 i2)
    have CLc := hide (fun (p q g : Option Addr) (kp kq : Nat) (vg vc : Value) (c : Nat) (u : World) (i1 : Lst u p ad) (i2 : Lst u g ys) => CLg.out g3 p q g kp kq vg vc n c ys u hn hys i1 i2)
    have htw := HTW.out (by first | rfl | trivial) (ys.take k) (ys.drop k)
    rw [List.take_append_drop] at htw
    obtain ⟨AI, hAI⟩ : ∃ R, lgI (lgF up ad size (ys.take k) 0) = R := ⟨_, rfl⟩
    obtain ⟨AB, hAB⟩ : ∃ R, (lgF up ad size (ys.take k) 0).isSome = R := ⟨_, rfl⟩
    obtain ⟨BI, hBI⟩ : ∃ R, lgI (lgF up ad size (ys.drop k) 0) = R := ⟨_, rfl⟩
    obtain ⟨BB, hBB⟩ : ∃ R, (lgF up ad size (ys.drop k) 0).isSome = R := ⟨_, rfl⟩
    obtain ⟨CI', hCI⟩ : ∃ R, lgI (lgF up ad size ys 0) = R := ⟨_, rfl⟩
    obtain ⟨CB, hCB⟩ : ∃ R, (lgF up ad size ys 0).isSome = R := ⟨_, rfl⟩
    simp only [hAI, hAB] at CLa htw
    simp only [hBI, hBB] at CLb CLz htw
    simp only [hCI, hCB] at CLc htw
    have HTW2 := hide htw
    have HKN := hide hkn
    clear HDR htw hAI hAB hBI hBB hCI hCB HTW CLg CC CI1 CI2 hl0 hc0 hc1 hys hn h2 HK1b HB1b CW hk hmb hkn hat g1 g2 g3 g4 g5 g6 HIN flt x0 x1 x2 x3 x4 x5 x6 x7 x8 x9 x10 x11 x12 x13 x14
    go_wp2_with fail
    refine (CM.out _).mono ?_
    rintro e w3 ⟨rfl, hw3⟩
    replace hw3 := hw3.symm
    subst hw3
    clear CM
    have H2 := hide (Below.refl w2.heap.size w2)
    have hkA := HKA.out.below H2.out
    have KS : Hid (∀ x, Below w2.heap.size w2 x → w.heap.size < x.heap.size ∧ x.cell? ⟨w.heap.size, 0, none⟩ = some (.int .i64 up) ∧ x.cell? ⟨w.heap.size, 1, none⟩ = some (.int .i64 sc) ∧ x.cell? ⟨w.heap.size, 2, none⟩ = some (.int .i64 de) ∧ x.cell? ⟨w.heap.size, 3, none⟩ = some (.int .i64 gap) ∧ x.cell? ⟨w.heap.size, 4, none⟩ = some (.int .i64 b0) ∧ x.cell? ⟨w.heap.size, 5, none⟩ = some (.int .i64 b1) ∧ x.cell? ⟨w.heap.size, 6, none⟩ = some (.int .i64 b2) ∧ x.cell? ⟨w.heap.size, 7, none⟩ = some (.int .i64 b3) ∧ x.cell? ⟨w.heap.size, 8, none⟩ = some (.bool lg) ∧ x.cell? ⟨w.heap.size, 9, none⟩ = some (.slice aa na ka) ∧ x.cell? ⟨w.heap.size, 10, none⟩ = some (.slice ab nb kb) ∧ x.cell? ⟨w.heap.size, 11, none⟩ = some (.slice ga ng kg) ∧ x.cell? ⟨w.heap.size, 12, none⟩ = some (.slice ca nc kc) ∧ x.cell? ⟨w.heap.size, 13, none⟩ = some (.slice la nl kl) ∧ x.cell? ⟨w.heap.size, 14, none⟩ = some (.int .i64 size)) := hide fun x hx => by
      have k1 := hkA.below hx
      exact ⟨k1.lt, by simpa using k1.cell 0, by simpa using k1.cell 1, by simpa using k1.cell 2, by simpa using k1.cell 3, by simpa using k1.cell 4, by simpa using k1.cell 5, by simpa using k1.cell 6, by simpa using k1.cell 7, by simpa using k1.cell 8, by simpa using k1.cell 9, by simpa using k1.cell 10, by simpa using k1.cell 11, by simpa using k1.cell 12, by simpa using k1.cell 13, by simpa using k1.cell 14⟩
    have HX := hide (Below.refl w2.heap.size w2)
    have CCr := hide (fun (u : World) (hu : Below w2.heap.size w2 u) => CC1.out u (below_t5 H2.out hu))
    have CIr := hide (fun (u : World) (hu : Below w2.heap.size w2 u) => CIa.out u hu)
    clear hkA CIa
    go_wp2_with fail
    go_region_held3 (fun x => w.heap.size < x.heap.size ∧ x.cell? ⟨w.heap.size, 0, none⟩ = some (.int .i64 up) ∧ x.cell? ⟨w.heap.size, 1, none⟩ = some (.int .i64 sc) ∧ x.cell? ⟨w.heap.size, 2, none⟩ = some (.int .i64 de) ∧ x.cell? ⟨w.heap.size, 3, none⟩ = some (.int .i64 gap) ∧ x.cell? ⟨w.heap.size, 4, none⟩ = some (.int .i64 b0) ∧ x.cell? ⟨w.heap.size, 5, none⟩ = some (.int .i64 b1) ∧ x.cell? ⟨w.heap.size, 6, none⟩ = some (.int .i64 b2) ∧ x.cell? ⟨w.heap.size, 7, none⟩ = some (.int .i64 b3) ∧ x.cell? ⟨w.heap.size, 8, none⟩ = some (.bool lg) ∧ x.cell? ⟨w.heap.size, 9, none⟩ = some (.slice aa na ka) ∧ x.cell? ⟨w.heap.size, 10, none⟩ = some (.slice ab nb kb) ∧ x.cell? ⟨w.heap.size, 11, none⟩ = some (.slice ga ng kg) ∧ x.cell? ⟨w.heap.size, 12, none⟩ = some (.slice ca nc kc) ∧ x.cell? ⟨w.heap.size, 13, none⟩ = some (.slice la nl kl) ∧ x.cell? ⟨w.heap.size, 14, none⟩ = some (.int .i64 size)) (exact KS.out _ (below_d HX.out (Below.refl _ _) rfl rfl rfl rfl)) ((first | (go_at_call 11; refine (CCr.out _ ?_).mono ?_; (exact below_d HX.out (Below.refl _ _) rfl rfl rfl rfl); rintro e wy ⟨p1, q1, g1, c1, kp1, kq1, kg1, kc1, rfl, i1, i2, i3, i4, hy⟩; have HP := hide i1; replace HX := hide (below_d HX.out hy rfl rfl rfl rfl); clear i1 i2 i3 i4 hy) | (go_at_call 19; refine (CIr.out _ ?_).mono ?_; (exact below_d HX.out (Below.refl _ _) rfl rfl rfl rfl); rintro e wz ⟨gj1, cj1, rfl, hlj, hy⟩; have HQ := hide hlj; have HP2 := hide (HP.out.below (below_d (Below.refl _ _) hy rfl rfl rfl rfl)); replace HX := hide (below_d HX.out hy rfl rfl rfl rfl); clear hlj hy) | (go_at_call 22; refine (CLa.out _ _ _ _ _ _ _ _ _ ?_ ?_).mono ?_; (exact HP2.out); (exact HQ.out); rintro e wv1 ⟨rfl, hy⟩; replace HX := hide (below_d HX.out hy rfl rfl rfl rfl); clear hy)))
    have H3 := hide (below_t5 H2.out HX.out)
    clear HX KS CCr CIr CLa H2 HP HP2 HQ
    by_cases hkc : c0 = k
    · have hnk : n = k := by have := HKN.out; omega
      subst hkc
      subst hnk
      have CIb2 : Hid (∀ (u : World), Below w2.heap.size w2 u → Calls Tryz.prog 19 #[.slice (some ⟨g0, 0, none⟩) 0 0, .int .i64 200] u (fun e w' => ∃ g c', e = .returned (.slice (some ⟨g, 0, none⟩) 0 c') ∧ Lst w' (some ⟨g, 0, none⟩) (ys.drop n) ∧ Below u.heap.size u w')) := hide fun u hu => CIz.out rfl u
      have CLb2 := hide (fun (p q g : Option Addr) (kp kq : Nat) (vg vc : Value) (c : Nat) (u : World) (i1 : Lst u p ad) (i2 : Lst u g (ys.drop n)) => CLz.out rfl p q g kp kq vg vc c u i1 i2)
      clear CIb CLb CIz CLz
      have CIb := CIb2
      have CLb := CLb2
      clear CIb2 CLb2
      have hkA := HKA.out.below H3.out
      have KS : Hid (∀ x, Below wv1.heap.size wv1 x → w.heap.size < x.heap.size ∧ x.cell? ⟨w.heap.size, 0, none⟩ = some (.int .i64 up) ∧ x.cell? ⟨w.heap.size, 1, none⟩ = some (.int .i64 sc) ∧ x.cell? ⟨w.heap.size, 2, none⟩ = some (.int .i64 de) ∧ x.cell? ⟨w.heap.size, 3, none⟩ = some (.int .i64 gap) ∧ x.cell? ⟨w.heap.size, 4, none⟩ = some (.int .i64 b0) ∧ x.cell? ⟨w.heap.size, 5, none⟩ = some (.int .i64 b1) ∧ x.cell? ⟨w.heap.size, 6, none⟩ = some (.int .i64 b2) ∧ x.cell? ⟨w.heap.size, 7, none⟩ = some (.int .i64 b3) ∧ x.cell? ⟨w.heap.size, 8, none⟩ = some (.bool lg) ∧ x.cell? ⟨w.heap.size, 9, none⟩ = some (.slice aa na ka) ∧ x.cell? ⟨w.heap.size, 10, none⟩ = some (.slice ab nb kb) ∧ x.cell? ⟨w.heap.size, 11, none⟩ = some (.slice ga ng kg) ∧ x.cell? ⟨w.heap.size, 12, none⟩ = some (.slice ca nc kc) ∧ x.cell? ⟨w.heap.size, 13, none⟩ = some (.slice la nl kl) ∧ x.cell? ⟨w.heap.size, 14, none⟩ = some (.int .i64 size)) := hide fun x hx => by
        have k1 := hkA.below hx
        exact ⟨k1.lt, by simpa using k1.cell 0, by simpa using k1.cell 1, by simpa using k1.cell 2, by simpa using k1.cell 3, by simpa using k1.cell 4, by simpa using k1.cell 5, by simpa using k1.cell 6, by simpa using k1.cell 7, by simpa using k1.cell 8, by simpa using k1.cell 9, by simpa using k1.cell 10, by simpa using k1.cell 11, by simpa using k1.cell 12, by simpa using k1.cell 13, by simpa using k1.cell 14⟩
      have HX := hide (Below.refl wv1.heap.size wv1)
      have CCr := hide (fun (u : World) (hu : Below wv1.heap.size wv1 u) => CC1.out u (below_t5 H3.out hu))
      have CIr := hide (fun (u : World) (hu : Below wv1.heap.size wv1 u) => CIb.out u (below_t5 H3.out hu))
      clear hkA CIb
      go_wp2_with fail
      go_region_held3 (fun x => w.heap.size < x.heap.size ∧ x.cell? ⟨w.heap.size, 0, none⟩ = some (.int .i64 up) ∧ x.cell? ⟨w.heap.size, 1, none⟩ = some (.int .i64 sc) ∧ x.cell? ⟨w.heap.size, 2, none⟩ = some (.int .i64 de) ∧ x.cell? ⟨w.heap.size, 3, none⟩ = some (.int .i64 gap) ∧ x.cell? ⟨w.heap.size, 4, none⟩ = some (.int .i64 b0) ∧ x.cell? ⟨w.heap.size, 5, none⟩ = some (.int .i64 b1) ∧ x.cell? ⟨w.heap.size, 6, none⟩ = some (.int .i64 b2) ∧ x.cell? ⟨w.heap.size, 7, none⟩ = some (.int .i64 b3) ∧ x.cell? ⟨w.heap.size, 8, none⟩ = some (.bool lg) ∧ x.cell? ⟨w.heap.size, 9, none⟩ = some (.slice aa na ka) ∧ x.cell? ⟨w.heap.size, 10, none⟩ = some (.slice ab nb kb) ∧ x.cell? ⟨w.heap.size, 11, none⟩ = some (.slice ga ng kg) ∧ x.cell? ⟨w.heap.size, 12, none⟩ = some (.slice ca nc kc) ∧ x.cell? ⟨w.heap.size, 13, none⟩ = some (.slice la nl kl) ∧ x.cell? ⟨w.heap.size, 14, none⟩ = some (.int .i64 size)) (exact KS.out _ (below_d HX.out (Below.refl _ _) rfl rfl rfl rfl)) ((first | (go_at_call 11; refine (CCr.out _ ?_).mono ?_; (exact below_d HX.out (Below.refl _ _) rfl rfl rfl rfl); rintro e wy ⟨p2, q2, g2, c2, kp2, kq2, kg2, kc2, rfl, i1, i2, i3, i4, hy⟩; have HP := hide i1; replace HX := hide (below_d HX.out hy rfl rfl rfl rfl); clear i1 i2 i3 i4 hy) | (go_at_call 19; refine (CIr.out _ ?_).mono ?_; (exact below_d HX.out (Below.refl _ _) rfl rfl rfl rfl); rintro e wz ⟨gj2, cj2, rfl, hlj, hy⟩; have HQ := hide hlj; have HP2 := hide (HP.out.below (below_d (Below.refl _ _) hy rfl rfl rfl rfl)); replace HX := hide (below_d HX.out hy rfl rfl rfl rfl); clear hlj hy) | (go_at_call 22; refine (CLb.out _ _ _ _ _ _ _ _ _ ?_ ?_).mono ?_; (exact HP2.out); (exact HQ.out); rintro e wv2 ⟨rfl, hy⟩; replace HX := hide (below_d HX.out hy rfl rfl rfl rfl); clear hy)))
      have H4 := hide (below_t5 H3.out HX.out)
      clear HX KS CCr CIr CLb H3 HP HP2 HQ
      have hkA := HKA.out.below H4.out
      have KS : Hid (∀ x, Below wv2.heap.size wv2 x → w.heap.size < x.heap.size ∧ x.cell? ⟨w.heap.size, 0, none⟩ = some (.int .i64 up) ∧ x.cell? ⟨w.heap.size, 1, none⟩ = some (.int .i64 sc) ∧ x.cell? ⟨w.heap.size, 2, none⟩ = some (.int .i64 de) ∧ x.cell? ⟨w.heap.size, 3, none⟩ = some (.int .i64 gap) ∧ x.cell? ⟨w.heap.size, 4, none⟩ = some (.int .i64 b0) ∧ x.cell? ⟨w.heap.size, 5, none⟩ = some (.int .i64 b1) ∧ x.cell? ⟨w.heap.size, 6, none⟩ = some (.int .i64 b2) ∧ x.cell? ⟨w.heap.size, 7, none⟩ = some (.int .i64 b3) ∧ x.cell? ⟨w.heap.size, 8, none⟩ = some (.bool lg) ∧ x.cell? ⟨w.heap.size, 9, none⟩ = some (.slice aa na ka) ∧ x.cell? ⟨w.heap.size, 10, none⟩ = some (.slice ab nb kb) ∧ x.cell? ⟨w.heap.size, 11, none⟩ = some (.slice ga ng kg) ∧ x.cell? ⟨w.heap.size, 12, none⟩ = some (.slice ca nc kc) ∧ x.cell? ⟨w.heap.size, 13, none⟩ = some (.slice la nl kl) ∧ x.cell? ⟨w.heap.size, 14, none⟩ = some (.int .i64 size)) := hide fun x hx => by
        have k1 := hkA.below hx
        exact ⟨k1.lt, by simpa using k1.cell 0, by simpa using k1.cell 1, by simpa using k1.cell 2, by simpa using k1.cell 3, by simpa using k1.cell 4, by simpa using k1.cell 5, by simpa using k1.cell 6, by simpa using k1.cell 7, by simpa using k1.cell 8, by simpa using k1.cell 9, by simpa using k1.cell 10, by simpa using k1.cell 11, by simpa using k1.cell 12, by simpa using k1.cell 13, by simpa using k1.cell 14⟩
      have HX := hide (Below.refl wv2.heap.size wv2)
      have CCr := hide (fun (u : World) (hu : Below wv2.heap.size wv2 u) => CC1.out u (below_t5 H4.out hu))
      have HL4 := hide (fun (u : World) (hu : Below wv2.heap.size wv2 u) => HL0.out.below (below_t5 H4.out hu))
      clear hkA
      go_wp2_with fail
      go_region_held3 (fun x => w.heap.size < x.heap.size ∧ x.cell? ⟨w.heap.size, 0, none⟩ = some (.int .i64 up) ∧ x.cell? ⟨w.heap.size, 1, none⟩ = some (.int .i64 sc) ∧ x.cell? ⟨w.heap.size, 2, none⟩ = some (.int .i64 de) ∧ x.cell? ⟨w.heap.size, 3, none⟩ = some (.int .i64 gap) ∧ x.cell? ⟨w.heap.size, 4, none⟩ = some (.int .i64 b0) ∧ x.cell? ⟨w.heap.size, 5, none⟩ = some (.int .i64 b1) ∧ x.cell? ⟨w.heap.size, 6, none⟩ = some (.int .i64 b2) ∧ x.cell? ⟨w.heap.size, 7, none⟩ = some (.int .i64 b3) ∧ x.cell? ⟨w.heap.size, 8, none⟩ = some (.bool lg) ∧ x.cell? ⟨w.heap.size, 9, none⟩ = some (.slice aa na ka) ∧ x.cell? ⟨w.heap.size, 10, none⟩ = some (.slice ab nb kb) ∧ x.cell? ⟨w.heap.size, 11, none⟩ = some (.slice ga ng kg) ∧ x.cell? ⟨w.heap.size, 12, none⟩ = some (.slice ca nc kc) ∧ x.cell? ⟨w.heap.size, 13, none⟩ = some (.slice la nl kl) ∧ x.cell? ⟨w.heap.size, 14, none⟩ = some (.int .i64 size)) (exact KS.out _ (below_d HX.out (Below.refl _ _) rfl rfl rfl rfl)) ((first | (go_at_call 11; refine (CCr.out _ ?_).mono ?_; (exact below_d HX.out (Below.refl _ _) rfl rfl rfl rfl); rintro e wy ⟨p3, q3, g3, c3, kp3, kq3, kg3, kc3, rfl, i1, i2, i3, i4, hy⟩; have HP := hide i1; replace HX := hide (below_d HX.out hy rfl rfl rfl rfl); clear i1 i2 i3 i4 hy) | (go_at_call 22; refine (CLc.out _ _ _ _ _ _ _ _ _ ?_ ?_).mono ?_; (exact HP.out); (exact HL4.out _ (below_d HX.out (Below.refl _ _) rfl rfl rfl rfl)); rintro e wv3 ⟨rfl, hy⟩; replace HX := hide (below_d HX.out hy rfl rfl rfl rfl); clear hy)))
      have H5 := hide (below_t5 H4.out HX.out)
      obtain ⟨t1, t2, ⟨t3, t4⟩, t5, t6⟩ := HTW2.out
      clear HX KS CCr CLc CC1 H4 HP HL4 HL0 HTW2
      cases CB with
      | true =>
        obtain ⟨rfl, rfl, rfl, u1, u2⟩ := t1 (by first | rfl | trivial)
        clear t1 t2
        go_wp2_with fail
        refine (CVx.out _ H5.out).mono ?_
        rintro e w9 ⟨rfl, h9⟩
        have H10 := hide (below_t5 HBA.out (below_t5 H5.out h9))
        clear h9 H5 CVx
        go_wp2_with fail
        go_ret
        exact ⟨rfl, H10.out⟩
      | false =>
        clear t1
        have HT2 := hide (t2 (by first | rfl | trivial))
        clear t2
        cases AB with
        | false =>
          go_wp2_with fail
          refine (CVx.out _ H5.out).mono ?_
          rintro e w9 ⟨rfl, h9⟩
          have H10 := hide (below_t5 HBA.out (below_t5 H5.out h9))
          clear h9 H5 CVx
          go_wp2_with fail
          go_ret
          exact ⟨rfl, H10.out⟩
        | true =>
          cases BB with
          | false =>
            go_wp2_with fail
            refine (CVx.out _ H5.out).mono ?_
            rintro e w9 ⟨rfl, h9⟩
            have H10 := hide (below_t5 HBA.out (below_t5 H5.out h9))
            clear h9 H5 CVx
            go_wp2_with fail
            go_ret
            exact ⟨rfl, H10.out⟩
          | true =>
            have u3 : 1099511627776 < AI + BI := HT2.out (by first | rfl | trivial) (by first | rfl | trivial)
            go_wp2_with fail
            refine (CVx.out _ H5.out).mono ?_
            rintro e w9 ⟨rfl, h9⟩
            have H10 := hide (below_t5 HBA.out (below_t5 H5.out h9))
            clear h9 H5 CVx
            go_wp2_with fail
            go_ret
            exact ⟨rfl, H10.out⟩
    · have hkc2 : ¬ (c0 : Int) = (k : Int) := by omega
      clear CIz CLz
      have hkA := HKA.out.below H3.out
      have KS : Hid (∀ x, Below wv1.heap.size wv1 x → w.heap.size < x.heap.size ∧ x.cell? ⟨w.heap.size, 0, none⟩ = some (.int .i64 up) ∧ x.cell? ⟨w.heap.size, 1, none⟩ = some (.int .i64 sc) ∧ x.cell? ⟨w.heap.size, 2, none⟩ = some (.int .i64 de) ∧ x.cell? ⟨w.heap.size, 3, none⟩ = some (.int .i64 gap) ∧ x.cell? ⟨w.heap.size, 4, none⟩ = some (.int .i64 b0) ∧ x.cell? ⟨w.heap.size, 5, none⟩ = some (.int .i64 b1) ∧ x.cell? ⟨w.heap.size, 6, none⟩ = some (.int .i64 b2) ∧ x.cell? ⟨w.heap.size, 7, none⟩ = some (.int .i64 b3) ∧ x.cell? ⟨w.heap.size, 8, none⟩ = some (.bool lg) ∧ x.cell? ⟨w.heap.size, 9, none⟩ = some (.slice aa na ka) ∧ x.cell? ⟨w.heap.size, 10, none⟩ = some (.slice ab nb kb) ∧ x.cell? ⟨w.heap.size, 11, none⟩ = some (.slice ga ng kg) ∧ x.cell? ⟨w.heap.size, 12, none⟩ = some (.slice ca nc kc) ∧ x.cell? ⟨w.heap.size, 13, none⟩ = some (.slice la nl kl) ∧ x.cell? ⟨w.heap.size, 14, none⟩ = some (.int .i64 size)) := hide fun x hx => by
        have k1 := hkA.below hx
        exact ⟨k1.lt, by simpa using k1.cell 0, by simpa using k1.cell 1, by simpa using k1.cell 2, by simpa using k1.cell 3, by simpa using k1.cell 4, by simpa using k1.cell 5, by simpa using k1.cell 6, by simpa using k1.cell 7, by simpa using k1.cell 8, by simpa using k1.cell 9, by simpa using k1.cell 10, by simpa using k1.cell 11, by simpa using k1.cell 12, by simpa using k1.cell 13, by simpa using k1.cell 14⟩
      have HX := hide (Below.refl wv1.heap.size wv1)
      have CCr := hide (fun (u : World) (hu : Below wv1.heap.size wv1 u) => CC1.out u (below_t5 H3.out hu))
      have CIr := hide (fun (u : World) (hu : Below wv1.heap.size wv1 u) => CIb.out u (below_t5 H3.out hu))
      clear hkA CIb
      go_wp2_with fail
      go_region_held3 (fun x => w.heap.size < x.heap.size ∧ x.cell? ⟨w.heap.size, 0, none⟩ = some (.int .i64 up) ∧ x.cell? ⟨w.heap.size, 1, none⟩ = some (.int .i64 sc) ∧ x.cell? ⟨w.heap.size, 2, none⟩ = some (.int .i64 de) ∧ x.cell? ⟨w.heap.size, 3, none⟩ = some (.int .i64 gap) ∧ x.cell? ⟨w.heap.size, 4, none⟩ = some (.int .i64 b0) ∧ x.cell? ⟨w.heap.size, 5, none⟩ = some (.int .i64 b1) ∧ x.cell? ⟨w.heap.size, 6, none⟩ = some (.int .i64 b2) ∧ x.cell? ⟨w.heap.size, 7, none⟩ = some (.int .i64 b3) ∧ x.cell? ⟨w.heap.size, 8, none⟩ = some (.bool lg) ∧ x.cell? ⟨w.heap.size, 9, none⟩ = some (.slice aa na ka) ∧ x.cell? ⟨w.heap.size, 10, none⟩ = some (.slice ab nb kb) ∧ x.cell? ⟨w.heap.size, 11, none⟩ = some (.slice ga ng kg) ∧ x.cell? ⟨w.heap.size, 12, none⟩ = some (.slice ca nc kc) ∧ x.cell? ⟨w.heap.size, 13, none⟩ = some (.slice la nl kl) ∧ x.cell? ⟨w.heap.size, 14, none⟩ = some (.int .i64 size)) (exact KS.out _ (below_d HX.out (Below.refl _ _) rfl rfl rfl rfl)) ((first | (go_at_call 11; refine (CCr.out _ ?_).mono ?_; (exact below_d HX.out (Below.refl _ _) rfl rfl rfl rfl); rintro e wy ⟨p2, q2, g2, c2, kp2, kq2, kg2, kc2, rfl, i1, i2, i3, i4, hy⟩; have HP := hide i1; replace HX := hide (below_d HX.out hy rfl rfl rfl rfl); clear i1 i2 i3 i4 hy) | (go_at_call 19; refine (CIr.out _ ?_).mono ?_; (exact below_d HX.out (Below.refl _ _) rfl rfl rfl rfl); rintro e wz ⟨gj2, cj2, rfl, hlj, hy⟩; have HQ := hide hlj; have HP2 := hide (HP.out.below (below_d (Below.refl _ _) hy rfl rfl rfl rfl)); replace HX := hide (below_d HX.out hy rfl rfl rfl rfl); clear hlj hy) | (go_at_call 22; refine (CLb.out _ _ _ _ _ _ _ _ _ ?_ ?_).mono ?_; (exact HP2.out); (exact HQ.out); rintro e wv2 ⟨rfl, hy⟩; replace HX := hide (below_d HX.out hy rfl rfl rfl rfl); clear hy)))
      have H4 := hide (below_t5 H3.out HX.out)
      clear HX KS CCr CIr CLb H3 HP HP2 HQ
      have hkA := HKA.out.below H4.out
      have KS : Hid (∀ x, Below wv2.heap.size wv2 x → w.heap.size < x.heap.size ∧ x.cell? ⟨w.heap.size, 0, none⟩ = some (.int .i64 up) ∧ x.cell? ⟨w.heap.size, 1, none⟩ = some (.int .i64 sc) ∧ x.cell? ⟨w.heap.size, 2, none⟩ = some (.int .i64 de) ∧ x.cell? ⟨w.heap.size, 3, none⟩ = some (.int .i64 gap) ∧ x.cell? ⟨w.heap.size, 4, none⟩ = some (.int .i64 b0) ∧ x.cell? ⟨w.heap.size, 5, none⟩ = some (.int .i64 b1) ∧ x.cell? ⟨w.heap.size, 6, none⟩ = some (.int .i64 b2) ∧ x.cell? ⟨w.heap.size, 7, none⟩ = some (.int .i64 b3) ∧ x.cell? ⟨w.heap.size, 8, none⟩ = some (.bool lg) ∧ x.cell? ⟨w.heap.size, 9, none⟩ = some (.slice aa na ka) ∧ x.cell? ⟨w.heap.size, 10, none⟩ = some (.slice ab nb kb) ∧ x.cell? ⟨w.heap.size, 11, none⟩ = some (.slice ga ng kg) ∧ x.cell? ⟨w.heap.size, 12, none⟩ = some (.slice ca nc kc) ∧ x.cell? ⟨w.heap.size, 13, none⟩ = some (.slice la nl kl) ∧ x.cell? ⟨w.heap.size, 14, none⟩ = some (.int .i64 size)) := hide fun x hx => by
        have k1 := hkA.below hx
        exact ⟨k1.lt, by simpa using k1.cell 0, by simpa using k1.cell 1, by simpa using k1.cell 2, by simpa using k1.cell 3, by simpa using k1.cell 4, by simpa using k1.cell 5, by simpa using k1.cell 6, by simpa using k1.cell 7, by simpa using k1.cell 8, by simpa using k1.cell 9, by simpa using k1.cell 10, by simpa using k1.cell 11, by simpa using k1.cell 12, by simpa using k1.cell 13, by simpa using k1.cell 14⟩
      have HX := hide (Below.refl wv2.heap.size wv2)
      have CCr := hide (fun (u : World) (hu : Below wv2.heap.size wv2 u) => CC1.out u (below_t5 H4.out hu))
      have HL4 := hide (fun (u : World) (hu : Below wv2.heap.size wv2 u) => HL0.out.below (below_t5 H4.out hu))
      clear hkA
      go_wp2_with fail
      go_region_held3 (fun x => w.heap.size < x.heap.size ∧ x.cell? ⟨w.heap.size, 0, none⟩ = some (.int .i64 up) ∧ x.cell? ⟨w.heap.size, 1, none⟩ = some (.int .i64 sc) ∧ x.cell? ⟨w.heap.size, 2, none⟩ = some (.int .i64 de) ∧ x.cell? ⟨w.heap.size, 3, none⟩ = some (.int .i64 gap) ∧ x.cell? ⟨w.heap.size, 4, none⟩ = some (.int .i64 b0) ∧ x.cell? ⟨w.heap.size, 5, none⟩ = some (.int .i64 b1) ∧ x.cell? ⟨w.heap.size, 6, none⟩ = some (.int .i64 b2) ∧ x.cell? ⟨w.heap.size, 7, none⟩ = some (.int .i64 b3) ∧ x.cell? ⟨w.heap.size, 8, none⟩ = some (.bool lg) ∧ x.cell? ⟨w.heap.size, 9, none⟩ = some (.slice aa na ka) ∧ x.cell? ⟨w.heap.size, 10, none⟩ = some (.slice ab nb kb) ∧ x.cell? ⟨w.heap.size, 11, none⟩ = some (.slice ga ng kg) ∧ x.cell? ⟨w.heap.size, 12, none⟩ = some (.slice ca nc kc) ∧ x.cell? ⟨w.heap.size, 13, none⟩ = some (.slice la nl kl) ∧ x.cell? ⟨w.heap.size, 14, none⟩ = some (.int .i64 size)) (exact KS.out _ (below_d HX.out (Below.refl _ _) rfl rfl rfl rfl)) ((first | (go_at_call 11; refine (CCr.out _ ?_).mono ?_; (exact below_d HX.out (Below.refl _ _) rfl rfl rfl rfl); rintro e wy ⟨p3, q3, g3, c3, kp3, kq3, kg3, kc3, rfl, i1, i2, i3, i4, hy⟩; have HP := hide i1; replace HX := hide (below_d HX.out hy rfl rfl rfl rfl); clear i1 i2 i3 i4 hy) | (go_at_call 22; refine (CLc.out _ _ _ _ _ _ _ _ _ ?_ ?_).mono ?_; (exact HP.out); (exact HL4.out _ (below_d HX.out (Below.refl _ _) rfl rfl rfl rfl)); rintro e wv3 ⟨rfl, hy⟩; replace HX := hide (below_d HX.out hy rfl rfl rfl rfl); clear hy)))
      have H5 := hide (below_t5 H4.out HX.out)
      obtain ⟨t1, t2, ⟨t3, t4⟩, t5, t6⟩ := HTW2.out
      clear HX KS CCr CLc CC1 H4 HP HL4 HL0 HTW2
      cases CB with
      | true =>
        obtain ⟨rfl, rfl, rfl, u1, u2⟩ := t1 (by first | rfl | trivial)
        clear t1 t2
        go_wp2_with fail
        refine (CVx.out _ H5.out).mono ?_
        rintro e w9 ⟨rfl, h9⟩
        have H10 := hide (below_t5 HBA.out (below_t5 H5.out h9))
        clear h9 H5 CVx
        go_wp2_with fail
        go_ret
        exact ⟨rfl, H10.out⟩
      | false =>
        clear t1
        have HT2 := hide (t2 (by first | rfl | trivial))
        clear t2
        cases AB with
        | false =>
          go_wp2_with fail
          refine (CVx.out _ H5.out).mono ?_
          rintro e w9 ⟨rfl, h9⟩
          have H10 := hide (below_t5 HBA.out (below_t5 H5.out h9))
          clear h9 H5 CVx
          go_wp2_with fail
          go_ret
          exact ⟨rfl, H10.out⟩
        | true =>
          cases BB with
          | false =>
            go_wp2_with fail
            refine (CVx.out _ H5.out).mono ?_
            rintro e w9 ⟨rfl, h9⟩
            have H10 := hide (below_t5 HBA.out (below_t5 H5.out h9))
            clear h9 H5 CVx
            go_wp2_with fail
            go_ret
            exact ⟨rfl, H10.out⟩
          | true =>
            have u3 : 1099511627776 < AI + BI := HT2.out (by first | rfl | trivial) (by first | rfl | trivial)
            go_wp2_with fail
            refine (CVx.out _ H5.out).mono ?_
            rintro e w9 ⟨rfl, h9⟩
            have H10 := hide (below_t5 HBA.out (below_t5 H5.out h9))
            clear h9 H5 CVx
            go_wp2_with fail
            go_ret
            exact ⟨rfl, H10.out⟩
end Go.Proofs.YtpdfpbbamnhkfaaGreatDoor.F12
