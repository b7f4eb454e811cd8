/-
  The law FaceShows, walked.
-/
import Derived.Deep.RegionHeld3
import Derived.Test.YtpdfpbbamnhkfaaGreatDoorX31
import Derived.Test.YtpdfpbbamnhkfaaGreatDoorX35
import Derived.Test.YtpdfpbbamnhkfaaGreatDoorX43
import Derived.Test.YtpdfpbbamnhkfaaGreatDoorX44
namespace Go.Proofs.YtpdfpbbamnhkfaaGreatDoor.F12
open Go.RowKit Go.Deep
set_option linter.unusedVariables false
set_option linter.unusedSimpArgs false

def shT (cs : List C11.Ch) (zs : List Int) (n : Nat) : List Int × Int × Int := match shI cs zs with | some k => ([], (k : Int), 120) | none => ((List.range n).map (shF cs zs), 0, 0)
def ShU (w : World) (L : List Int) (at_ er : Int) (e : Ending) (w' : World) : Prop := Below w.heap.size w w' ∧ ∃ a cap, e = .returned (.tuple #[.slice a L.length cap, .int .i64 at_, .int .i64 er]) ∧ Lst w' a L
theorem sh_u1 {w w' : World} {cs : List C11.Ch} {zs : List Int} {n : Nat} {e : Ending} (h : ShR w cs zs n e w') : ShU w (shT cs zs n).1 (shT cs zs n).2.1 (shT cs zs n).2.2 e w' := by
  obtain ⟨hb, ⟨k, h1, _, he⟩ | ⟨h1, g, he, _, hk⟩⟩ := h
  · refine ⟨hb, none, 0, ?_, ?_⟩ <;> unfold shT <;> rw [h1]
    · exact he
    · exact Or.inl rfl
  · refine ⟨hb, some ⟨g, 0, none⟩, n, ?_, ?_⟩ <;> unfold shT <;> rw [h1]
    · simp only [List.length_map, List.length_range]; exact he
    · exact arr_lst hk
theorem sh_u2 {w w' : World} {cs : List C11.Ch} {zs : List Int} {n : Nat} {e : Ending} (h : ShQ w cs zs n e w') : ShU w (shT cs zs n).1 (shT cs zs n).2.1 (shT cs zs n).2.2 e w' := by
  obtain ⟨hb, ⟨k, h1, _, he⟩ | ⟨h1, a, c, he, hl⟩⟩ := h
  · refine ⟨hb, none, 0, ?_, ?_⟩ <;> unfold shT <;> rw [h1]
    · exact he
    · exact Or.inl rfl
  · refine ⟨hb, a, c, ?_, ?_⟩ <;> unfold shT <;> rw [h1]
    · simp only [List.length_map, List.length_range]; exact he
    · exact hl
theorem shT_len (cs : List C11.Ch) (zs : List Int) (n : Nat) : (shT cs zs n).1.length ≤ n := by
  unfold shT; split <;> simp
set_option maxRecDepth 8000 in
set_option maxHeartbeats 16000000 in
theorem shows_walk (m : Mt) (aa ab ga ca : Option Addr) (ka kb kg kc : Nat) (gs : List ByteArray) (cs : List C11.Ch) (la : Option Addr) (kl : Nat) (zs : List Int) (size : Int) (w : World) (hF : FIn w m aa ab ga ca gs cs) (hA : AIn w la kl zs size) (hW : S8.Glo8 w) :
    Calls Tryz.prog 6 #[.agg (acs m (.slice aa m.ad.length ka) (.slice ab m.be.length kb) (.slice ga gs.length kg) (.slice ca cs.length kc) (.slice la zs.length kl) size)] w fun e w' => e = .returned (.bool true) ∧ Below w.heap.size w w' := by
  obtain ⟨nl, hnl⟩ : ∃ n, zs.length = n := ⟨_, rfl⟩
  rw [hnl]
  obtain ⟨na, hna⟩ : ∃ n, m.ad.length = n := ⟨_, rfl⟩
  obtain ⟨nb, hnb⟩ : ∃ n, m.be.length = n := ⟨_, rfl⟩
  obtain ⟨ng, hng⟩ : ∃ n, gs.length = n := ⟨_, rfl⟩
  obtain ⟨nc, hnc⟩ : ∃ n, cs.length = n := ⟨_, rfl⟩
  rw [hna, hnb, hng, hnc]
  have CW := hide (fun (u : World) (hu : Below w.heap.size w u) => wakes12_any u (hW.below hu))
  have CL := hide (fun (u : World) (hu : Below w.heap.size w u) => large_any m aa ab ga ca na nb ng nc ka kb kg kc gs u hng (by have := hF.mg; omega) (fun g hg => Nat.le_trans (hF.sg g hg) (by omega)) (hF.lg.below hu))
  have bF := (Below.refl w.heap.size w).alloc (Nat.le_refl _) (.cells (acs m (.slice aa na ka) (.slice ab nb kb) (.slice ga ng kg) (.slice ca nc kc) (.slice la nl kl) size) 47)
  have kF := Blk.new w (acs m (.slice aa na ka) (.slice ab nb kb) (.slice ga ng kg) (.slice ca nc kc) (.slice la nl kl) size) 47
  obtain ⟨LB, hLB⟩ : ∃ b, lrgB (lsum gs 0) ng nc na nb = b := ⟨_, rfl⟩
  rw [hLB] at CL
  have HIN := hide (fun h : LB = false => lrg_in (hLB.trans h) hng)
  have CC := hide (fun (g1 : ng ≤ 200) (g2 : nc ≤ 200) (g3 : na ≤ 200) (g4 : nb ≤ 200) (u : World) (hu : Below w.heap.size w u) => copy_any m aa ab ga ca na nb ng nc ka kb kg kc gs cs u hna hnb hng hnc (by omega) (by omega) (by omega) (by omega) (hF.la.below hu) (hF.lb.below hu) (hF.lg.below hu) (hF.lc.below hu))
  have CI := hide (fun (u : World) (hu : Below w.heap.size w u) => ints_any la nl kl zs u hnl (by have := hA.cap; omega) hA.cap.2 (hA.lst.below hu))
  have CI2 := hide (fun (g : Option Addr) (n c : Nat) (ys : List Int) (u : World) (h1 : ys.length = n) (h2 : n ≤ c) (h3 : c ≤ 9223372036854775807) (h4 : Lst u g ys) => ints_any g n c ys u h1 h2 h3 h4)
  have CLg := hide (fun (g3 : na ≤ 200) (p q g : Option Addr) (kp kq : Nat) (vg vc : Value) (n c : Nat) (ys : List Int) (u : World) (h1 : ys.length = n) (h2 : n ≤ 200) (i1 : Lst u p m.ad) (i2 : Lst u g ys) => long_any m p na kp q nb kq vg vc g n c ys size u h1 (by omega) hF.up hF.xa hA.size hna (by omega) i1 i2)
  have CS1 := hide (fun (g2 : nc ≤ 200) (va vb vg : Value) (c : Option Addr) (kc' : Nat) (g : Option Addr) (n cp : Nat) (ys : List Int) (u : World) (h1 : ys.length = n) (h2 : n ≤ 200) (hy : ∀ y ∈ ys, i64 y) (i1 : C11.CLst u c cs) (i2 : Lst u g ys) => (show_any m va vb vg c nc kc' cs g n cp ys u h1 (by omega) hy hnc (by omega) hF.rc i1 i2).mono fun _ _ h => sh_u1 h)
  have CS2 := hide (fun (g2 : nc ≤ 200) (g : Option Addr) (n cp : Nat) (ys : List Int) (u : World) (hu : Below w.heap.size w u) (h1 : ys.length = n) (h2 : n ≤ 200) (hy : ∀ y ∈ ys, i64 y) (i2 : Lst u g ys) => (rshow_any m (.slice aa na ka) (.slice ab nb kb) (.slice ga ng kg) ca nc kc cs g n cp ys u h1 (by omega) hy hnc (by omega) hF.rc (hF.lc.below hu) i2).mono fun _ _ h => sh_u2 h)
  have CL2 := hide (fun (g3 : na ≤ 200) (g : Option Addr) (n c : Nat) (ys : List Int) (u : World) (hu : Below w.heap.size w u) (h1 : ys.length = n) (h2 : n ≤ 200) (i2 : Lst u g ys) => rlong_any m aa na ka ab nb kb (.slice ga ng kg) (.slice ca nc kc) g n c ys size u h1 (by omega) hF.up hF.xa hA.size hna (by omega) (hF.la.below hu) i2)
  have HXS := hide hA.xs
  obtain ⟨up, sc, de, gap, b0, b1, b2, b3, lg, ad, be⟩ := m
  simp only [fcs, acs, CoR, lgV_is] at CC CLg CS1 CS2 CL2 CL bF kF ⊢
  have HKF := hide kF
  have HBF := hide bF
  have x0 := kF.cell 0
  have x1 := kF.cell 1
  have x2 := kF.cell 2
  have x3 := kF.cell 3
  have x4 := kF.cell 4
  have x5 := kF.cell 5
  have x6 := kF.cell 6
  have x7 := kF.cell 7
  have x8 := kF.cell 8
  have x9 := kF.cell 9
  have x10 := kF.cell 10
  have x11 := kF.cell 11
  have x12 := kF.cell 12
  simp at x0 x1 x2 x3 x4 x5 x6 x7 x8 x9 x10 x11 x12
  have flt := kF.lt
  clear kF bF hLB hF hA hW hna hnb hng hnc hnl
  go_enter Tryz.func6, Tryz.ntmps6
  go_wp2_with fail
  refine (CL.out _ HBF.out).mono ?_
  rintro e w1 ⟨rfl, h1⟩
  have HB1 := hide (below_t5 HBF.out h1)
  have HK1 := hide (HKF.out.below h1)
  clear h1 HKF HBF CL flt x0 x1 x2 x3 x4 x5 x6 x7 x8 x9 x10 x11 x12
  cases LB with
  | true =>
    go_wp2_with fail
    refine (CW.out _ HB1.out).mono ?_
    rintro e w2 ⟨rfl, h2⟩
    have HB2 := hide (below_t5 HB1.out h2)
    clear h2
    go_wp2_with fail
    go_ret
    exact ⟨rfl, HB2.out⟩
  | false =>
    obtain ⟨g1, g2, g3, g4, g5, g6⟩ := HIN.out rfl
    have hk := HK1.out
    have x0 := hk.cell 0
    have x1 := hk.cell 1
    have x2 := hk.cell 2
    have x3 := hk.cell 3
    have x4 := hk.cell 4
    have x5 := hk.cell 5
    have x6 := hk.cell 6
    have x7 := hk.cell 7
    have x8 := hk.cell 8
    have x9 := hk.cell 9
    have x10 := hk.cell 10
    have x11 := hk.cell 11
    have x12 := hk.cell 12
    have x13 := hk.cell 13
    have x14 := hk.cell 14
    simp at x0 x1 x2 x3 x4 x5 x6 x7 x8 x9 x10 x11 x12 x13 x14
    have flt := hk.lt
    have CI1 := hide (CI.out w1 HB1.out)
    clear hk CI
    go_wp2_with fail
    refine CI1.out.mono ?_
    rintro e w2 ⟨g0, c0, rfl, hl0, h2, hc0, hc1⟩
    have hys : (zs.take 200).length ≤ 200 := by rw [List.length_take]; omega
    have hyx : ∀ y ∈ zs.take 200, i64 y := fun y hy => HXS.out y (List.mem_of_mem_take hy)
    generalize zs.take 200 = ys at hl0 hc0 hys hyx ⊢
    have htk : ys.take 200 = ys := List.take_of_length_le hys
    obtain ⟨n, hn⟩ : ∃ n, ys.length = n := ⟨_, rfl⟩
    rw [hn] at hc0 hys ⊢
    have hkA := HK1.out.below h2
    have HBA := hide (below_t5 HB1.out h2)
    clear x0 x1 x2 x3 x4 x5 x6 x7 x8 x9 x10 x11 x12 x13 x14 flt CI1 HK1 HB1 h2 HXS
    have x0 := hkA.cell 0
    have x1 := hkA.cell 1
    have x2 := hkA.cell 2
    have x3 := hkA.cell 3
    have x4 := hkA.cell 4
    have x5 := hkA.cell 5
    have x6 := hkA.cell 6
    have x7 := hkA.cell 7
    have x8 := hkA.cell 8
    have x9 := hkA.cell 9
    have x10 := hkA.cell 10
    have x11 := hkA.cell 11
    have x12 := hkA.cell 12
    have x13 := hkA.cell 13
    have x14 := hkA.cell 14
    simp at x0 x1 x2 x3 x4 x5 x6 x7 x8 x9 x10 x11 x12 x13 x14
    have flt := hkA.lt
    have HKA := hide hkA
    have HL0 := hide hl0
    have HYX := hide hyx
    have CC1 := hide (fun (u : World) (hu : Below w2.heap.size w2 u) => CC.out g1 g2 g3 g4 u (below_t5 HBA.out hu))
    have CI3 : Hid (∀ (u : World), Below w2.heap.size w2 u → Calls Tryz.prog 19 #[.slice (some ⟨g0, 0, none⟩) n c0, .int .i64 200] u (fun e w' => ∃ g c', e = .returned (.slice (some ⟨g, 0, none⟩) n c') ∧ Lst w' (some ⟨g, 0, none⟩) ys ∧ Below u.heap.size u w')) := hide fun u hu => (CI2.out (some ⟨g0, 0, none⟩) n c0 ys u hn hc0 hc1 (HL0.out.below hu)).mono fun e w' ⟨g, c', he, hl, hb, _⟩ => by
      rw [htk] at he hl
      exact ⟨g, c', by rw [← hn]; exact he, hl, hb⟩
    clear hl0 hyx hc0 hc1 htk CI2 CC
    have CSx := hide (fun (va vb vg : Value) (c : Option Addr) (kc' : Nat) (g : Option Addr) (cp : Nat) (u : World) (i1 : C11.CLst u c cs) (i2 : Lst u g ys) => CS1.out g2 va vb vg c kc' g n cp ys u hn hys HYX.out i1 i2)
    have CSy := hide (fun (u : World) (hu : Below w2.heap.size w2 u) => CS2.out g2 (some ⟨g0, 0, none⟩) n c0 ys u (below_t5 HBA.out hu) hn hys HYX.out (HL0.out.below hu))
    have CLx := hide (fun (p q g : Option Addr) (kp kq : Nat) (vg vc : Value) (c : Nat) (u : World) (i1 : Lst u p ad) (i2 : Lst u g ys) => CLg.out g3 p q g kp kq vg vc n c ys u hn hys i1 i2)
    have CLy := hide (fun (u : World) (hu : Below w2.heap.size w2 u) => CL2.out g3 (some ⟨g0, 0, none⟩) n c0 ys u (below_t5 HBA.out hu) hn hys (HL0.out.below hu))
    have CVx := hide (fun (u : World) (hu : Below w2.heap.size w2 u) => CW.out u (below_t5 HBA.out hu))
    have hSL := shT_len cs ys n
    obtain ⟨L, hL⟩ : ∃ L, (shT cs ys n).1 = L := ⟨_, rfl⟩
    obtain ⟨AT, hAT⟩ : ∃ L, (shT cs ys n).2.1 = L := ⟨_, rfl⟩
    obtain ⟨ER, hER⟩ : ∃ L, (shT cs ys n).2.2 = L := ⟨_, rfl⟩
    obtain ⟨RI, hRI⟩ : ∃ R, lgI (lgF up ad size ys 0) = R := ⟨_, rfl⟩
    obtain ⟨RB, hRB⟩ : ∃ R, (lgF up ad size ys 0).isSome = R := ⟨_, rfl⟩
    rw [hL, hAT, hER] at CSx CSy
    rw [hL] at hSL
    simp only [hRI, hRB] at CLx CLy
    obtain ⟨nL, hnL⟩ : ∃ n, L.length = n := ⟨_, rfl⟩
    have HNL := hide (And.intro hnL hSL)
    have HYS := hide hys
    clear hkA hL hAT hER hRI hRB CS1 CS2 CLg CL2 CW hSL hnL hys hn HL0 HYX g1 g2 g3 g4 g5 g6 HIN
    go_wp2_with fail
    refine (CC1.out _ (Below.refl _ _)).mono ?_
    rintro e w3 ⟨p, q, g, c, kp, kq, kg', kc', rfl, i1, i2, i3, i4, h3⟩
    simp only [fcs]
    have HI4 := hide i4
    have H3 := hide h3
    clear i1 i2 i3 i4 h3
    go_wp2_with fail
    refine (CI3.out _ H3.out).mono ?_
    rintro e w4 ⟨gi, ci, rfl, hli, h4⟩
    have H4 := hide (below_t5 H3.out h4)
    have CSa := hide (CSx.out (.slice (some ⟨p, 0, none⟩) na kp) (.slice (some ⟨q, 0, none⟩) nb kq) (.slice (some ⟨g, 0, none⟩) ng kg') (some ⟨c, 0, none⟩) kc' (some ⟨gi, 0, none⟩) ci w4 (HI4.out.below h4) hli)
    clear h4 hli H3 HI4 CSx x0 x1 x2 x3 x4 x5 x6 x7 x8 x9 x10 x11 x12 x13 x14 flt
    go_wp2_with fail
    refine CSa.out.mono ?_
    rintro e w5 ⟨h5, s1, k1, rfl, hs1⟩
    rw [HNL.out.1]
    have H5 := hide (below_t5 H4.out h5)
    have HS1 := hide hs1
    have hkA := HKA.out.below (below_t5 H4.out h5)
    clear h5 hs1 H4 CSa
    have x0 := hkA.cell 0
    have x1 := hkA.cell 1
    have x2 := hkA.cell 2
    have x3 := hkA.cell 3
    have x4 := hkA.cell 4
    have x5 := hkA.cell 5
    have x6 := hkA.cell 6
    have x7 := hkA.cell 7
    have x8 := hkA.cell 8
    have x9 := hkA.cell 9
    have x10 := hkA.cell 10
    have x11 := hkA.cell 11
    have x12 := hkA.cell 12
    have x13 := hkA.cell 13
    have x14 := hkA.cell 14
    simp at x0 x1 x2 x3 x4 x5 x6 x7 x8 x9 x10 x11 x12 x13 x14
    have flt := hkA.lt
    clear hkA
    go_wp2_with fail
    refine (CSy.out _ H5.out).mono ?_
    rintro e w6 ⟨h6, s2, k2, rfl, hs2⟩
    rw [HNL.out.1]
    have H6 := hide (below_t5 H5.out h6)
    have HS6 := hide (And.intro (HS1.out.below h6) hs2)
    have hkA := HKA.out.below (below_t5 H5.out h6)
    clear h6 hs2 H5 HS1 CSy x0 x1 x2 x3 x4 x5 x6 x7 x8 x9 x10 x11 x12 x13 x14 flt
    have KS : Hid (∀ x, Below w6.heap.size w6 x → w.heap.size < x.heap.size ∧ x.cell? ⟨w.heap.size, 0, none⟩ = some (.int .i64 up) ∧ x.cell? ⟨w.heap.size, 1, none⟩ = some (.int .i64 sc) ∧ x.cell? ⟨w.heap.size, 2, none⟩ = some (.int .i64 de) ∧ x.cell? ⟨w.heap.size, 3, none⟩ = some (.int .i64 gap) ∧ x.cell? ⟨w.heap.size, 4, none⟩ = some (.int .i64 b0) ∧ x.cell? ⟨w.heap.size, 5, none⟩ = some (.int .i64 b1) ∧ x.cell? ⟨w.heap.size, 6, none⟩ = some (.int .i64 b2) ∧ x.cell? ⟨w.heap.size, 7, none⟩ = some (.int .i64 b3) ∧ x.cell? ⟨w.heap.size, 8, none⟩ = some (.bool lg) ∧ x.cell? ⟨w.heap.size, 9, none⟩ = some (.slice aa na ka) ∧ x.cell? ⟨w.heap.size, 10, none⟩ = some (.slice ab nb kb) ∧ x.cell? ⟨w.heap.size, 11, none⟩ = some (.slice ga ng kg) ∧ x.cell? ⟨w.heap.size, 12, none⟩ = some (.slice ca nc kc) ∧ x.cell? ⟨w.heap.size, 13, none⟩ = some (.slice la nl kl) ∧ x.cell? ⟨w.heap.size, 14, none⟩ = some (.int .i64 size)) := hide fun x hx => by
      have k1 := hkA.below hx
      exact ⟨k1.lt, by simpa using k1.cell 0, by simpa using k1.cell 1, by simpa using k1.cell 2, by simpa using k1.cell 3, by simpa using k1.cell 4, by simpa using k1.cell 5, by simpa using k1.cell 6, by simpa using k1.cell 7, by simpa using k1.cell 8, by simpa using k1.cell 9, by simpa using k1.cell 10, by simpa using k1.cell 11, by simpa using k1.cell 12, by simpa using k1.cell 13, by simpa using k1.cell 14⟩
    have HX := hide (Below.refl w6.heap.size w6)
    have CCr := hide (fun (u : World) (hu : Below w6.heap.size w6 u) => CC1.out u (below_t5 H6.out hu))
    have CIr := hide (fun (u : World) (hu : Below w6.heap.size w6 u) => CI3.out u (below_t5 H6.out hu))
    clear hkA CC1 CI3
    go_wp2_with fail
    go_region_held3 (fun x => w.heap.size < x.heap.size ∧ x.cell? ⟨w.heap.size, 0, none⟩ = some (.int .i64 up) ∧ x.cell? ⟨w.heap.size, 1, none⟩ = some (.int .i64 sc) ∧ x.cell? ⟨w.heap.size, 2, none⟩ = some (.int .i64 de) ∧ x.cell? ⟨w.heap.size, 3, none⟩ = some (.int .i64 gap) ∧ x.cell? ⟨w.heap.size, 4, none⟩ = some (.int .i64 b0) ∧ x.cell? ⟨w.heap.size, 5, none⟩ = some (.int .i64 b1) ∧ x.cell? ⟨w.heap.size, 6, none⟩ = some (.int .i64 b2) ∧ x.cell? ⟨w.heap.size, 7, none⟩ = some (.int .i64 b3) ∧ x.cell? ⟨w.heap.size, 8, none⟩ = some (.bool lg) ∧ x.cell? ⟨w.heap.size, 9, none⟩ = some (.slice aa na ka) ∧ x.cell? ⟨w.heap.size, 10, none⟩ = some (.slice ab nb kb) ∧ x.cell? ⟨w.heap.size, 11, none⟩ = some (.slice ga ng kg) ∧ x.cell? ⟨w.heap.size, 12, none⟩ = some (.slice ca nc kc) ∧ x.cell? ⟨w.heap.size, 13, none⟩ = some (.slice la nl kl) ∧ x.cell? ⟨w.heap.size, 14, none⟩ = some (.int .i64 size)) (exact KS.out _ (below_d HX.out (Below.refl _ _) rfl rfl rfl rfl)) ((first | (go_at_call 11; refine (CCr.out _ ?_).mono ?_; (exact below_d HX.out (Below.refl _ _) rfl rfl rfl rfl); rintro e wy ⟨p2, q2, g2', c2', kp2, kq2, kg2, kc2, rfl, i1, i2, i3, i4, hy⟩; have HP := hide i1; replace HX := hide (below_d HX.out hy rfl rfl rfl rfl); clear i1 i2 i3 i4 hy) | (go_at_call 19; refine (CIr.out _ ?_).mono ?_; (exact below_d HX.out (Below.refl _ _) rfl rfl rfl rfl); rintro e wz ⟨gj, cj, rfl, hlj, hy⟩; have HQ := hide hlj; have HP2 := hide (HP.out.below (below_d (Below.refl _ _) hy rfl rfl rfl rfl)); replace HX := hide (below_d HX.out hy rfl rfl rfl rfl); clear hlj hy) | (go_at_call 22; refine (CLx.out _ _ _ _ _ _ _ _ _ ?_ ?_).mono ?_; (exact HP2.out); (exact HQ.out); rintro e wv ⟨rfl, hy⟩; replace HX := hide (below_d HX.out hy rfl rfl rfl rfl); clear hy)))
    have hkA := (HKA.out.below H6.out).below HX.out
    have x0 := hkA.cell 0
    have x1 := hkA.cell 1
    have x2 := hkA.cell 2
    have x3 := hkA.cell 3
    have x4 := hkA.cell 4
    have x5 := hkA.cell 5
    have x6 := hkA.cell 6
    have x7 := hkA.cell 7
    have x8 := hkA.cell 8
    have x9 := hkA.cell 9
    have x10 := hkA.cell 10
    have x11 := hkA.cell 11
    have x12 := hkA.cell 12
    have x13 := hkA.cell 13
    have x14 := hkA.cell 14
    simp at x0 x1 x2 x3 x4 x5 x6 x7 x8 x9 x10 x11 x12 x13 x14
    have flt := hkA.lt
    have H7 := hide (below_t5 H6.out HX.out)
    have HS7 := hide (And.intro (HS6.out.1.below HX.out) (HS6.out.2.below HX.out))
    clear hkA HX KS CCr CIr CLx H6 HS6 HKA
    go_wp2_with fail
    refine (CLy.out _ H7.out).mono ?_
    rintro e w7 ⟨rfl, h7⟩
    have H8 := hide (below_t5 H7.out h7)
    have CKS := hide (G10.ksame_any s1 s2 nL k1 k2 L w7 HNL.out.1 (by have := HNL.out.2; have := HYS.out; have := HNL.out.1; omega) (HS7.out.1.below h7) (HS7.out.2.below h7))
    clear h7 H7 HS7 CLy x0 x1 x2 x3 x4 x5 x6 x7 x8 x9 x10 x11 x12 x13 x14 flt
    go_wp2_with fail
    refine CKS.out.mono ?_
    rintro e w8 ⟨rfl, nd, hw8⟩
    have h8 : Below w7.heap.size w7 w8 := by rw [hw8]; exact below_d (Below.refl _ _) (Below.refl _ _) rfl rfl rfl rfl
    have H9 := hide (below_t5 H8.out h8)
    clear h8 hw8 H8 CKS
    go_wp2_with fail
    refine (CVx.out _ H9.out).mono ?_
    rintro e w9 ⟨rfl, h9⟩
    have H10 := hide (below_t5 HBA.out (below_t5 H9.out h9))
    clear h9 H9 CVx
    go_wp2_with fail
    go_ret
    exact ⟨rfl, H10.out⟩
end Go.Proofs.YtpdfpbbamnhkfaaGreatDoor.F12
