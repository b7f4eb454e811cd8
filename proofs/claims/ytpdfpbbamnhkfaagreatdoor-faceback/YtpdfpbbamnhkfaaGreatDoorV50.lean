/-
  Joined: F12Qb, F12Ba, F12Rh, F12Bb.
-/
import Derived.Test.YtpdfpbbamnhkfaaGreatDoorV18
import Derived.Test.YtpdfpbbamnhkfaaGreatDoorV29
import Derived.Test.YtpdfpbbamnhkfaaGreatDoorV31
import Derived.Test.YtpdfpbbamnhkfaaGreatDoorV43
import Derived.Test.YtpdfpbbamnhkfaaGreatDoorV46
import Derived.Test.YtpdfpbbamnhkfaaGreatDoorV48
import Derived.Test.YtpdfpbbamnhkfaaGreatDoorV49
namespace Go.Proofs.YtpdfpbbamnhkfaaGreatDoor.F12
open Go.RowKit Go.Deep
set_option linter.unusedVariables false
set_option linter.unusedSimpArgs false
theorem app_S3 (u : World) (H : Nat) (a : Option Addr) (n c : Nat) (zs : List ByteArray) (hz : zs.length = n) (h : n ≤ 100000) (hL : G10.SLst u a zs) :
    ∃ g c' w', (Builtin.append_ #[26, 26] 26 #[.slice (some ⟨H, 0, none⟩) 0 0, .slice a n c]).run Tryz.prog u = .ok (.slice (some ⟨g, 0, none⟩) n c') w' ∧ (G10.SLst w' (some ⟨g, 0, none⟩) zs ∧ Below u.heap.size u w' ∧ ∀ i, i < n → g < w'.heap.size ∧ w'.frozen? ⟨g, i, none⟩ = false ∧ u.heap.size ≤ g) := by
  obtain ⟨i0, hi, hz0, hz1, hz2⟩ := info_parts5 info_strs
  rcases Nat.eq_zero_or_pos n with h0 | h0
  · subst h0
    obtain rfl : zs = [] := List.eq_nil_of_length_eq_zero hz
    have hs : Src Tryz.prog i0.size 26 (.slice a 0 c) 0 [] u := by
      cases a with
      | none => exact Src.ofNil _ Tryz.underlying26 c
      | some x => exact Src.ofSlice _ Tryz.underlying26 x 0 c [] (by simp) (by simp) (by simp)
    have hr := run_append_room_src (P := Tryz.prog) u 26 26 26 9 i0 Tryz.underlying26 hi H 0 0 0 _ 0 [] hs (by omega) (by simp) (by simp)
    exact ⟨H, 0, u, by simpa [World.setCells] using hr, Or.inl rfl, Below.refl _ _, fun i hi => by omega⟩
  · rcases hL with hz' | ⟨b, off, rfl, hb, hcell⟩
    · rw [hz'] at hz; simp at hz; omega
    have hs : Src Tryz.prog i0.size 26 (.slice (some ⟨b, off, none⟩) n c) n (zs.map Value.string) u := by
      refine Src.ofSlice u Tryz.underlying26 ⟨b, off, none⟩ n c _ (by rw [hz1]; simp [hz]) ?_ (fun u hu => by obtain ⟨x, _, rfl⟩ := List.mem_map.1 hu; rfl)
      intro j v hu
      have hj : j < zs.length := by
        have := List.getElem?_eq_some_iff.1 hu
        simpa using this.1
      rw [Go.WideShapes.add_plain, hcell j hj]
      rw [List.getElem?_map, List.getElem?_eq_getElem hj] at hu
      simp at hu
      rw [← hu, List.getD_eq_getElem?_getD, List.getElem?_eq_getElem hj]
      rfl
    have hr := run_append_grow_src (P := Tryz.prog) u 26 26 26 9 i0 (.string ⟨#[]⟩) Tryz.underlying26 hi hz0 (some ⟨H, 0, none⟩) 0 0 [] (run_firstCells_some _ i0.size 0 _ 0 0 [] (by simp) (by simp)) _ n _ hs (by omega) (by omega)
      (by rw [hz2]; have := growslice_fits (need := 0 + n) (old := 0) (bytes := 16) (by omega) (by omega); exact this)
    simp only [Nat.zero_add, List.nil_append] at hr
    have hsz : (u.drew).heap.size = u.heap.size := rfl
    refine ⟨_, _, _, hr, Or.inr ⟨u.heap.size, 0, rfl, by simp, fun i hi => ?_⟩, (bdr (Below.refl _ _)).alloc (Nat.le_refl _) _, fun i _ => ⟨by simp, (Blk.new u.drew _ _).frozen i, Nat.le_refl _⟩⟩
    rw [Nat.zero_add, World.cell?_alloc_at _ _ _ _ hsz.symm, Array.getElem?_append_left (by simpa using hi)]
    simp [List.getElem?_eq_getElem hi, List.getD_eq_getElem?_getD]
theorem fz_but {w w' : World} {g R n : Nat} {gs : List ByteArray} (hl : G10.SLst w (some ⟨g, 0, none⟩) gs) (hn : gs.length = n) (h : ∀ i, i < n → g < w.heap.size ∧ w.frozen? ⟨g, i, none⟩ = false) (hb : But R w w') (hk : Blk w R zf 29) : ∀ i, i < n → g < w'.heap.size ∧ w'.frozen? ⟨g, i, none⟩ = false := fun i hi => by
  obtain ⟨h1, h2⟩ := h i hi
  have hne : g ≠ R := by
    intro e
    subst e
    rcases hl with hz | ⟨b, o, h3, h4, h5⟩
    · rw [hz] at hn; simp at hn; omega
    · obtain ⟨rfl, rfl⟩ : g = b ∧ 0 = o := by simpa using h3
      have := h5 i (by omega)
      rw [hk.cell] at this
      exact nos this
  exact ⟨Nat.lt_of_lt_of_le h1 hb.size, by rw [World.frozen?_of_block (w := w) (hb.block g h1 hne)]; exact h2⟩
def CoF (m : Mt) (gs : List ByteArray) (cs : List C11.Ch) (na nb ng nc : Nat) (w : World) (e : Ending) (w' : World) : Prop := ∃ p q g c kp kq kg' kc', e = .returned (.agg (fcs m (.slice (some ⟨p, 0, none⟩) na kp) (.slice (some ⟨q, 0, none⟩) nb kq) (.slice (some ⟨g, 0, none⟩) ng kg') (.slice (some ⟨c, 0, none⟩) nc kc'))) ∧ Lst w' (some ⟨p, 0, none⟩) m.ad ∧ Lst w' (some ⟨q, 0, none⟩) m.be ∧ G10.SLst w' (some ⟨g, 0, none⟩) gs ∧ C11.CLst w' (some ⟨c, 0, none⟩) cs ∧ Below w.heap.size w w' ∧ (∀ i, i < ng → g < w'.heap.size ∧ w'.frozen? ⟨g, i, none⟩ = false ∧ w.heap.size ≤ g) ∧ w.heap.size ≤ p ∧ w.heap.size ≤ q ∧ (cs = [] ∨ w.heap.size ≤ c)
set_option maxRecDepth 8000 in
set_option maxHeartbeats 8000000 in
theorem copy_fr (m : Mt) (aa ab ga ca : Option Addr) (na nb ng nc ka kb kg kc : Nat) (gs : List ByteArray) (cs : List C11.Ch) (w : World) (hna : m.ad.length = na) (hnb : m.be.length = nb) (hng : gs.length = ng) (hnc : cs.length = nc) (hma : na ≤ 100000) (hmb : nb ≤ 100000) (hmg : ng ≤ 100000) (hmc : nc ≤ 100000) (hA : Lst w aa m.ad) (hB : Lst w ab m.be) (hG : G10.SLst w ga gs) (hC : C11.CLst w ca cs) :
    Calls Tryz.prog 11 #[.agg (fcs m (.slice aa na ka) (.slice ab nb kb) (.slice ga ng kg) (.slice ca nc kc))] w (CoF m gs cs na nb ng nc w) := by
  have CM := hide (fun (u : World) (hu : Below w.heap.size w u) => cp_new m aa ab na ka nb kb u hna hnb hma hmb (hA.below hu) (hB.below hu))
  have CS := hide (fun (u : World) (H : Nat) (hu : Below w.heap.size w u) => app_S3 u H ga ng kg gs hng hmg (hG.below hu))
  have CC := hide (fun (u : World) (H : Nat) (hu : Below w.heap.size w u) => app_C3 u H ca nc kc cs hnc hmc (hC.below hu))
  have b1 := (Below.refl w.heap.size w).alloc (Nat.le_refl _) (.cells (fcs m (.slice aa na ka) (.slice ab nb kb) (.slice ga ng kg) (.slice ca nc kc)) 29)
  have k1 := Blk.new w (fcs m (.slice aa na ka) (.slice ab nb kb) (.slice ga ng kg) (.slice ca nc kc)) 29
  have z1 : (w.alloc (.cells (fcs m (.slice aa na ka) (.slice ab nb kb) (.slice ga ng kg) (.slice ca nc kc)) 29)).heap.size = w.heap.size + 1 := by simp
  obtain ⟨up, sc, de, gap, b0, b1', b2, b3, lg, ad, be⟩ := m
  simp only [mcs, fcs] at CM b1 k1 z1 ⊢
  have HNG := hide hng
  clear hna hnb hng hnc hma hmb hmg hmc hA hB hG hC
  go_enter Tryz.func11, Tryz.ntmps11
  go_wp2_with fail
  rw [← z1]
  generalize w.alloc (.cells #[.int .i64 up, .int .i64 sc, .int .i64 de, .int .i64 gap, .int .i64 b0, .int .i64 b1', .int .i64 b2, .int .i64 b3, .bool lg, .slice aa na ka, .slice ab nb kb, .slice ga ng kg, .slice ca nc kc] 29) = U at b1 k1 z1 ⊢
  have bU := (Below.refl U.heap.size U).alloc (Nat.le_refl _) (.cells zf 29)
  have kZ := Blk.new U zf 29
  have k2 := k1.below bU
  have b2' := below_t5 b1 bU
  generalize U.alloc (.cells zf 29) = V at bU kZ k2 b2' ⊢
  obtain ⟨F, hF⟩ : ∃ F, w.heap.size = F := ⟨_, rfl⟩
  obtain ⟨R, hR⟩ : ∃ R, U.heap.size = R := ⟨_, rfl⟩
  rw [hF] at k2
  rw [hR] at kZ ⊢
  have KS : Hid (∀ x, Blk x F #[.int .i64 up, .int .i64 sc, .int .i64 de, .int .i64 gap, .int .i64 b0, .int .i64 b1', .int .i64 b2, .int .i64 b3, .bool lg, .slice aa na ka, .slice ab nb kb, .slice ga ng kg, .slice ca nc kc] 29 → F < x.heap.size ∧ x.cell? ⟨F, 0, none⟩ = some (.int .i64 up) ∧ x.cell? ⟨F, 1, none⟩ = some (.int .i64 sc) ∧ x.cell? ⟨F, 2, none⟩ = some (.int .i64 de) ∧ x.cell? ⟨F, 3, none⟩ = some (.int .i64 gap) ∧ x.cell? ⟨F, 4, none⟩ = some (.int .i64 b0) ∧ x.cell? ⟨F, 5, none⟩ = some (.int .i64 b1') ∧ x.cell? ⟨F, 6, none⟩ = some (.int .i64 b2) ∧ x.cell? ⟨F, 7, none⟩ = some (.int .i64 b3) ∧ x.cell? ⟨F, 8, none⟩ = some (.bool lg) ∧ x.cell? ⟨F, 9, none⟩ = some (.slice aa na ka) ∧ x.cell? ⟨F, 10, none⟩ = some (.slice ab nb kb) ∧ x.cell? ⟨F, 11, none⟩ = some (.slice ga ng kg) ∧ x.cell? ⟨F, 12, none⟩ = some (.slice ca nc kc)) := hide fun x hx => by
    have k := hx
    exact ⟨k.lt, by simpa using k.cell 0, by simpa using k.cell 1, by simpa using k.cell 2, by simpa using k.cell 3, by simpa using k.cell 4, by simpa using k.cell 5, by simpa using k.cell 6, by simpa using k.cell 7, by simpa using k.cell 8, by simpa using k.cell 9, by simpa using k.cell 10, by simpa using k.cell 11, by simpa using k.cell 12⟩
  have HKF := hide k2
  have HNE : Hid (F ≠ R) := hide (by omega)
  have HX := hide (Below.refl V.heap.size V)
  have HBV := hide b2'
  have HKZ := hide kZ
  have KEEP : Hid (∀ x : World, Below V.heap.size V x → True) := hide (fun _ _ => trivial)
  have HWR : Hid (w.heap.size ≤ R) := hide (by omega)
  have HRV : Hid (R < V.heap.size) := hide kZ.lt
  have HFR : Hid (w.heap.size = F ∧ U.heap.size = R) := hide ⟨hF, hR⟩
  have CM1 := hide (fun (u : World) (hu : Below V.heap.size V u) => CM.out u (below_t5 b2' hu))
  have CS1 := hide (fun (u : World) (H : Nat) (hu : Below V.heap.size V u) => CS.out u H (below_t5 b2' hu))
  have CC1 := hide (fun (u : World) (H : Nat) (hu : Below V.heap.size V u) => CC.out u H (below_t5 b2' hu))
  rw [hF]
  clear b1 k1 z1 bU kZ k2 b2' hF hR CM CS CC
  go_region_held3 (fun x => F < x.heap.size ∧ x.cell? ⟨F, 0, none⟩ = some (.int .i64 up) ∧ x.cell? ⟨F, 1, none⟩ = some (.int .i64 sc) ∧ x.cell? ⟨F, 2, none⟩ = some (.int .i64 de) ∧ x.cell? ⟨F, 3, none⟩ = some (.int .i64 gap) ∧ x.cell? ⟨F, 4, none⟩ = some (.int .i64 b0) ∧ x.cell? ⟨F, 5, none⟩ = some (.int .i64 b1') ∧ x.cell? ⟨F, 6, none⟩ = some (.int .i64 b2) ∧ x.cell? ⟨F, 7, none⟩ = some (.int .i64 b3) ∧ x.cell? ⟨F, 8, none⟩ = some (.bool lg) ∧ x.cell? ⟨F, 9, none⟩ = some (.slice aa na ka) ∧ x.cell? ⟨F, 10, none⟩ = some (.slice ab nb kb) ∧ x.cell? ⟨F, 11, none⟩ = some (.slice ga ng kg) ∧ x.cell? ⟨F, 12, none⟩ = some (.slice ca nc kc)) ((refine KS.out _ ?_; repeat (first | refine Blk.other ?_ HNE.out _ _ | (refine Blk.below HKF.out ?_; repeat (first | exact HX.out | refine ba ?_ _ | refine bdr ?_))))) ((first | (go_at_call 29; refine (CM1.out _ ?_).mono ?_; (repeat (first | exact HX.out | refine ba ?_ _ | refine bdr ?_)); rintro e wy ⟨p, q, cp, cq, rfl, hl1, hl2, hy, hp1, hq1⟩; (try clear r0 r1 r2 r3 r4 r5 r6 r7 r8 r9 r10 r11 r12 z0 z1 z2 z3 z4 z5 z6 z7 z8 z9 z10 z11 z12 rlt); have HX0 := HX; have HK0 := KEEP; replace HX := hide (show Below V.heap.size V wy from below_t5 (by repeat (first | exact HX0.out | refine ba ?_ _ | refine bdr ?_)) hy); replace KEEP := hide (fun (x : World) (hx : Below wy.heap.size wy x) => And.intro (HK0.out x (below_t5 (below_t5 (by repeat (first | exact Below.refl _ _ | refine ba ?_ _ | refine bdr ?_)) hy) hx)) (And.intro (hl1.below hx) (hl2.below hx))); have HPQ := hide (And.intro (Nat.le_trans (show Below V.heap.size V _ from (by repeat (first | exact HX0.out | refine ba ?_ _ | refine bdr ?_))).size hp1) (Nat.le_trans (show Below V.heap.size V _ from (by repeat (first | exact HX0.out | refine ba ?_ _ | refine bdr ?_))).size hq1)); clear HX0 HK0 hl1 hl2 hy hp1 hq1; have kR := HKZ.out.below HX.out; have r0 := kR.cell 0; have z0 := kR.frozen 0; have r1 := kR.cell 1; have z1 := kR.frozen 1; have r2 := kR.cell 2; have z2 := kR.frozen 2; have r3 := kR.cell 3; have z3 := kR.frozen 3; have r4 := kR.cell 4; have z4 := kR.frozen 4; have r5 := kR.cell 5; have z5 := kR.frozen 5; have r6 := kR.cell 6; have z6 := kR.frozen 6; have r7 := kR.cell 7; have z7 := kR.frozen 7; have r8 := kR.cell 8; have z8 := kR.frozen 8; have r9 := kR.cell 9; have z9 := kR.frozen 9; have r10 := kR.cell 10; have z10 := kR.frozen 10; have r11 := kR.cell 11; have z11 := kR.frozen 11; have r12 := kR.cell 12; have z12 := kR.frozen 12; simp at r0 r1 r2 r3 r4 r5 r6 r7 r8 r9 r10 r11 r12; have rlt := kR.lt; clear kR) | (refine step_append_ex _ (by rfl) _ _ _ _ rfl _ _ (by rfl) (by rfl) (CS1.out _ _ ?_) ?_; (repeat (first | exact HX.out | refine ba ?_ _ | refine bdr ?_)); rintro g gc wq ⟨hl, hy, hfz⟩; (try clear r0 r1 r2 r3 r4 r5 r6 r7 r8 r9 r10 r11 r12 z0 z1 z2 z3 z4 z5 z6 z7 z8 z9 z10 z11 z12 rlt); have HX0 := HX; have HK0 := KEEP; replace HX := hide (show Below V.heap.size V wq from below_t5 (by repeat (first | exact HX0.out | refine ba ?_ _ | refine bdr ?_)) hy); replace KEEP := hide (fun (x : World) (hx : Below wq.heap.size wq x) => And.intro (HK0.out x (below_t5 (below_t5 (by repeat (first | exact Below.refl _ _ | refine ba ?_ _ | refine bdr ?_)) hy) hx)) (hl.below hx)); have HK1 := KEEP; replace KEEP := hide (fun (x : World) (hx : Below wq.heap.size wq x) => And.intro (HK1.out x hx).1 (And.intro (HK1.out x hx).2 (fun i hi => And.intro (Nat.lt_of_lt_of_le (hfz i hi).1 hx.size) ((hx.frozen (p := ⟨g, i, none⟩) (hfz i hi).1).trans (hfz i hi).2.1)))); have HGE := hide (fun i (hi : i < ng) => Nat.le_trans (show Below V.heap.size V _ from (by repeat (first | exact HX0.out | refine ba ?_ _ | refine bdr ?_))).size (hfz i hi).2.2); clear HX0 HK0 HK1 hl hy hfz; have kR := HKZ.out.below HX.out; have r0 := kR.cell 0; have z0 := kR.frozen 0; have r1 := kR.cell 1; have z1 := kR.frozen 1; have r2 := kR.cell 2; have z2 := kR.frozen 2; have r3 := kR.cell 3; have z3 := kR.frozen 3; have r4 := kR.cell 4; have z4 := kR.frozen 4; have r5 := kR.cell 5; have z5 := kR.frozen 5; have r6 := kR.cell 6; have z6 := kR.frozen 6; have r7 := kR.cell 7; have z7 := kR.frozen 7; have r8 := kR.cell 8; have z8 := kR.frozen 8; have r9 := kR.cell 9; have z9 := kR.frozen 9; have r10 := kR.cell 10; have z10 := kR.frozen 10; have r11 := kR.cell 11; have z11 := kR.frozen 11; have r12 := kR.cell 12; have z12 := kR.frozen 12; simp at r0 r1 r2 r3 r4 r5 r6 r7 r8 r9 r10 r11 r12; have rlt := kR.lt; clear kR) | (refine step_append_ex _ (by rfl) _ _ _ _ rfl _ _ (by rfl) (by rfl) (CC1.out _ _ ?_) ?_; (repeat (first | exact HX.out | refine ba ?_ _ | refine bdr ?_)); rintro c ccp wz ⟨hl, hy, hc1⟩; (try clear r0 r1 r2 r3 r4 r5 r6 r7 r8 r9 r10 r11 r12 z0 z1 z2 z3 z4 z5 z6 z7 z8 z9 z10 z11 z12 rlt); have HX0 := HX; have HK0 := KEEP; replace HX := hide (show Below V.heap.size V wz from below_t5 (by repeat (first | exact HX0.out | refine ba ?_ _ | refine bdr ?_)) hy); replace KEEP := hide (fun (x : World) (hx : Below wz.heap.size wz x) => And.intro (HK0.out x (below_t5 (below_t5 (by repeat (first | exact Below.refl _ _ | refine ba ?_ _ | refine bdr ?_)) hy) hx)) (hl.below hx)); have HCF := hide (hc1.imp id (fun h => Nat.le_trans (show Below V.heap.size V _ from (by repeat (first | exact HX0.out | refine ba ?_ _ | refine bdr ?_))).size h)); clear HX0 HK0 hl hy hc1; have kR := HKZ.out.below HX.out; have r0 := kR.cell 0; have z0 := kR.frozen 0; have r1 := kR.cell 1; have z1 := kR.frozen 1; have r2 := kR.cell 2; have z2 := kR.frozen 2; have r3 := kR.cell 3; have z3 := kR.frozen 3; have r4 := kR.cell 4; have z4 := kR.frozen 4; have r5 := kR.cell 5; have z5 := kR.frozen 5; have r6 := kR.cell 6; have z6 := kR.frozen 6; have r7 := kR.cell 7; have z7 := kR.frozen 7; have r8 := kR.cell 8; have z8 := kR.frozen 8; have r9 := kR.cell 9; have z9 := kR.frozen 9; have r10 := kR.cell 10; have z10 := kR.frozen 10; have r11 := kR.cell 11; have z11 := kR.frozen 11; have r12 := kR.cell 12; have z12 := kR.frozen 12; simp at r0 r1 r2 r3 r4 r5 r6 r7 r8 r9 r10 r11 r12; have rlt := kR.lt; clear kR)))
  all_goals (
    have kR := HKZ.out.below HX.out
    have hst := store13 kR (.int .i64 up) (.int .i64 sc) (.int .i64 de) (.int .i64 gap) (.int .i64 b0) (.int .i64 b1') (.int .i64 b2) (.int .i64 b3) (.bool lg) (.slice (some ⟨p, 0, none⟩) na cp) (.slice (some ⟨q, 0, none⟩) nb cq) (.slice (some ⟨g, 0, none⟩) ng gc) (.slice (some ⟨c, 0, none⟩) nc ccp)
    have hl := KEEP.out _ (Below.refl _ _)
    have hbe := hst.2.below (below_t5 HBV.out HX.out) HWR.out
    have hrv := HRV.out
    have hpq := HPQ.out
    have u1 := hl.1.1.2.1.but hst.2 (by omega)
    have u2 := hl.1.1.2.2.but hst.2 (by omega)
    have u3 := slst_but hl.1.2.1 hst.2 kR (fun _ _ => nos)
    have u6 := fz_but hl.1.2.1 HNG.out hl.1.2.2 hst.2 kR
    have u4 := clst_but hl.2 hst.2 (HCF.out.imp id (fun h => ⟨_, rfl, by omega⟩))
    clear r0 r1 r2 r3 r4 r5 r6 r7 r8 r9 r10 r11 r12 z0 z1 z2 z3 z4 z5 z6 z7 z8 z9 z10 z11 z12 rlt hl hrv hpq kR
    generalize (((((((((((((wz.setCell ⟨R, 0, none⟩ (.int .i64 up)).setCell ⟨R, 1, none⟩ (.int .i64 sc)).setCell ⟨R, 2, none⟩ (.int .i64 de)).setCell ⟨R, 3, none⟩ (.int .i64 gap)).setCell ⟨R, 4, none⟩ (.int .i64 b0)).setCell ⟨R, 5, none⟩ (.int .i64 b1')).setCell ⟨R, 6, none⟩ (.int .i64 b2)).setCell ⟨R, 7, none⟩ (.int .i64 b3)).setCell ⟨R, 8, none⟩ (.bool lg)).setCell ⟨R, 9, none⟩ (.slice (some ⟨p, 0, none⟩) na cp)).setCell ⟨R, 10, none⟩ (.slice (some ⟨q, 0, none⟩) nb cq)).setCell ⟨R, 11, none⟩ (.slice (some ⟨g, 0, none⟩) ng gc)).setCell ⟨R, 12, none⟩ (.slice (some ⟨c, 0, none⟩) nc ccp)) = Z at hst hbe u1 u2 u3 u4 u6 ⊢
    have qq0 := hst.1.cell 0
    have qq1 := hst.1.cell 1
    have qq2 := hst.1.cell 2
    have qq3 := hst.1.cell 3
    have qq4 := hst.1.cell 4
    have qq5 := hst.1.cell 5
    have qq6 := hst.1.cell 6
    have qq7 := hst.1.cell 7
    have qq8 := hst.1.cell 8
    have qq9 := hst.1.cell 9
    have qq10 := hst.1.cell 10
    have qq11 := hst.1.cell 11
    have qq12 := hst.1.cell 12
    simp at qq0 qq1 qq2 qq3 qq4 qq5 qq6 qq7 qq8 qq9 qq10 qq11 qq12
    (try go_wp2_with fail)
    exact bodyPost_ret (v := .agg #[.int .i64 up, .int .i64 sc, .int .i64 de, .int .i64 gap, .int .i64 b0, .int .i64 b1', .int .i64 b2, .int .i64 b3, .bool lg, .slice (some ⟨p, 0, none⟩) na cp, .slice (some ⟨q, 0, none⟩) nb cq, .slice (some ⟨g, 0, none⟩) ng gc, .slice (some ⟨c, 0, none⟩) nc ccp]) (by simp [results, Tryz.results11, go_sem, qq0, qq1, qq2, qq3, qq4, qq5, qq6, qq7, qq8, qq9, qq10, qq11, qq12]) rfl ⟨p, q, g, c, cp, cq, gc, ccp, rfl, u1, u2, u3, u4, hbe, fun i hi => ⟨(u6 i hi).1, (u6 i hi).2, Nat.le_trans HBV.out.size (HGE.out i hi)⟩, Nat.le_trans HBV.out.size HPQ.out.1, Nat.le_trans HBV.out.size HPQ.out.2, HCF.out.imp id (Nat.le_trans HBV.out.size)⟩)
end Go.Proofs.YtpdfpbbamnhkfaaGreatDoor.F12
namespace Go.Proofs.YtpdfpbbamnhkfaaGreatDoor.C11
open Go.RowKit Go.Deep
set_option linter.unusedVariables false
set_option linter.unusedSimpArgs false
theorem s12_redN (N : Nat) (gs : List Ch) (hN : ∀ i, i < gs.length → (gs.getD i c0).g + (gs.getD i c0).l - (gs.getD i c0).f < (N : Int)) (hm : gs.length ≤ 4096) (hg : ∀ i, i < gs.length → GI (gs.getD i c0)) (hr : Rise gs) : twV (s12 gs) N = accL gs [] := by
  obtain ⟨m1, m2⟩ := s12_m gs hm
  have hb : twB (s12 gs) = true := by
    rw [twB_t, m1, m2, s12_len]
    refine ⟨by omega, ?_, hm, rfl, by omega⟩
    unfold s12; simp
  have ha : ∀ i, i < n4 (s12 gs) 12 → okG (s12 gs) N i = true := by
    intro i hi
    rw [m1] at hi
    obtain ⟨e1, e2, e3⟩ := s12_at gs i hi (hg i hi)
    obtain ⟨h0, h1, h2, h3, h4⟩ := hg i hi
    have hNi := hN i hi
    have hle : lea (s12 gs) i ≤ (gs.getD i c0).f.toNat := by
      cases i with
      | zero => exact Nat.zero_le _
      | succ j =>
        show gb (s12 gs) j + 1 ≤ _
        obtain ⟨_, e, _⟩ := s12_at gs j (by omega) (hg j (by omega))
        have := hr j hi
        have hj := hg j (by omega)
        unfold GI at hj
        rw [e]; omega
    unfold okG
    rw [e1, e2, e3]
    exact decide_eq_true ⟨hle, by omega, by omega, by omega⟩
  rw [twV_ok hb ha, m1]
  have : ∀ k, k ≤ gs.length → accG (s12 gs) k = accL (gs.take k) [] := by
    intro k
    induction k with
    | zero => intro _; rfl
    | succ k ih =>
      intro hk
      obtain ⟨e1, e2, e3⟩ := s12_at gs k (by omega) (hg k (by omega))
      rw [accG, ih (by omega), take_ch gs k (by omega), accL_snoc, e1, e2, e3]
  have h := this gs.length (Nat.le_refl _)
  rwa [List.take_length] at h
theorem tab_redN (N : Nat) (H : List UInt8) (gs : List Ch) (hN : ∀ i, i < gs.length → (gs.getD i c0).g + (gs.getD i c0).l - (gs.getD i c0).f < (N : Int)) (hH : H.length = 12) (h0 : H.take 2 = [0, 0]) (h1 : n2 H 2 = 1) (h2 : wiR (n2 H 4) (n2 H 6) = true) (h3 : n4 H 8 = 12)
    (hm : gs.length ≤ 4096) (hg : ∀ i, i < gs.length → GI (gs.getD i c0)) (hr : Rise gs) : redV (H ++ s12 gs) N = accL gs [] := by
  have hbt : ∀ k, k < 12 → bt (H ++ s12 gs) k = bt H k := fun k hk => by
    unfold bt; rw [List.getD_eq_getElem?_getD, List.getElem?_append_left (by omega), ← List.getD_eq_getElem?_getD]
  have hn2 : ∀ k, k + 1 < 12 → n2 (H ++ s12 gs) k = n2 H k := fun k hk => by unfold n2; rw [hbt k (by omega), hbt (k + 1) (by omega)]
  have hn4 : n4 (H ++ s12 gs) 8 = 12 := by
    rw [← h3]; unfold n4; rw [hn2 8 (by omega), hn2 10 (by omega)]
  have hl : (H ++ s12 gs).length = 28 + 12 * gs.length := by rw [List.length_append, hH, s12_len]; omega
  have hrow : rowB (H ++ s12 gs) = true := by
    rw [rowB_t, hl, hn2 2 (by omega), h1]
    refine ⟨by omega, ?_, by omega⟩
    rw [List.take_append_of_le_length (by omega)]; exact h0
  have hwi : wiI (H ++ s12 gs) = some 0 := by
    unfold wiI
    rw [hn2 2 (by omega), h1]
    refine fstI_some (by omega) ?_ (fun j hj => by omega)
    show wiR (rp (H ++ s12 gs) 0) (re (H ++ s12 gs) 0) = true
    unfold rp re
    rw [hn2 4 (by omega), hn2 6 (by omega)]
    exact h2
  unfold redV redW
  rw [hrow, hwi]
  show twV ((H ++ s12 gs).drop (rpl (H ++ s12 gs) 0)) N = _
  have : rpl (H ++ s12 gs) 0 = 12 := hn4
  rw [this, ← hH, List.drop_left]
  exact s12_redN N gs hN hm hg hr
theorem wide_n (N : Nat) (hN4 : N ≤ 4096) (cs : List Ch) (hg : gooB cs (N : Int) = true) : redV (wiT cs) N = some cs := by
  obtain ⟨h1, h2⟩ := gooB_iff.1 hg
  have hGS : GS cs := (gooB_iff.1 (F12.goo_up hg hN4)).2
  have e : wiT cs = opT 10 ++ s12 cs := by unfold wiT s12; simp [List.append_assoc]
  have hfit : ∀ i, i < cs.length → fitB (cs.getD i c0) (N : Int) = true := fun i hi => by
    have := h2 i hi
    unfold okB at this
    rw [Bool.and_eq_true] at this
    exact this.1
  rw [e, tab_redN N (opT 10) cs (fun i hi => by have := fitB_t.1 (hfit i hi); omega) (by decide +kernel) (by decide +kernel) (by decide +kernel) (by decide +kernel) (by decide +kernel) h1 (fun i hi => by
    have := fitB_t.1 (hfit i hi)
    unfold GI; omega) (fun i hi => by
    have := h2 (i + 1) hi
    unfold okB nxB at this
    simp only [Nat.add_sub_cancel, Bool.and_eq_true, Bool.or_eq_true, Bool.not_eq_true', Bool.or_eq_false_iff, decide_eq_false_iff_not, decide_eq_true_eq] at this
    rcases this.2 with h' | h'
    · omega
    · omega)]
  exact acc_back cs hGS h1
end Go.Proofs.YtpdfpbbamnhkfaaGreatDoor.C11
namespace Go.Proofs.YtpdfpbbamnhkfaaGreatDoor.F12
open Go.RowKit Go.Deep
set_option linter.unusedVariables false
set_option linter.unusedSimpArgs false
def pdS (g : ByteArray) : ByteArray := ⟨(G10.pdT g.data.toList).toArray⟩
def pdG (gs : List ByteArray) : List ByteArray := gs.map pdS
theorem pdS_l (g : ByteArray) : (pdS g).data.toList = G10.pdT g.data.toList := rfl
theorem pdG_len (gs : List ByteArray) : (pdG gs).length = gs.length := by unfold pdG; simp
theorem pdG_get (gs : List ByteArray) (i : Nat) (h : i < gs.length) : (pdG gs).getD i ⟨#[]⟩ = pdS (gs.getD i ⟨#[]⟩) := by
  unfold pdG
  rw [List.getD_eq_getElem?_getD, List.getElem?_map, List.getD_eq_getElem?_getD, List.getElem?_eq_getElem h]
  rfl
theorem gp_pd {n : Nat} {g : ByteArray} {q : List Nat} (h : gpV n g = some q) : gpV n (pdS g) = some q := by
  unfold gpV at h ⊢
  rw [pdS_l]
  cases hs : G10.shV g.data.toList with
  | none => rw [hs] at h; cases h
  | some r =>
    obtain ⟨p, ps⟩ := r
    rw [hs] at h
    rw [G10.sh_pd _ _ hs]
    simp only [G10.pr_pd] at h ⊢
    exact h
theorem cp_pd {gs : List ByteArray} {pss : List (List Nat)} (h : cpV gs = some pss) : cpV (pdG gs) = some pss := by
  unfold cpV at h
  split at h
  · rename_i ho
    injection h with h
    have key : ∀ i, i < gs.length → gpV (pdG gs).length ((pdG gs).getD i ⟨#[]⟩) = gpV gs.length (gs.getD i ⟨#[]⟩) ∧ (gpV gs.length (gs.getD i ⟨#[]⟩)).isSome = true := fun i hi => by
      unfold okC at ho
      have h1 := List.all_eq_true.1 ho i (by simpa using hi)
      obtain ⟨q, hq⟩ := Option.isSome_iff_exists.1 h1
      rw [pdG_get gs i hi, pdG_len, gp_pd hq, hq]
      exact ⟨rfl, rfl⟩
    rw [okC_yes (fun i hi => by rw [pdG_len] at hi; rw [(key i hi).1]; exact (key i hi).2), ← h, pdG_len]
    congr 1
    apply List.map_congr_left
    intro i hi
    unfold qf
    rw [(key i (by simpa using hi)).1]
  · cases h
theorem ck_pd {m : Mt} {gs : List ByteArray} {cs : List C11.Ch} (h : ckV m gs cs = 0) : ckV (lgM m) (pdG gs) cs = 0 := by
  unfold ckV at h ⊢
  cases h1 : goodB m with
  | false => rw [h1] at h; simp at h
  | true =>
    rw [show goodB (lgM m) = true from h1]
    rw [h1] at h
    simp only [if_true] at h ⊢
    by_cases h2 : gs.length = m.ad.length
    · rw [if_pos h2] at h
      rw [if_pos (show (pdG gs).length = (lgM m).ad.length by rw [pdG_len]; exact h2)]
      cases h3 : cpV gs with
      | none => rw [h3] at h; simp at h
      | some pss => rw [h3] at h; rw [cp_pd h3, pdG_len]; exact h
    · rw [if_neg h2] at h; simp at h
theorem Mt_ext {a b : Mt} (h0 : a.up = b.up) (h1 : a.sc = b.sc) (h2 : a.de = b.de) (h3 : a.ga = b.ga) (h4 : a.b0 = b.b0) (h5 : a.b1 = b.b1) (h6 : a.b2 = b.b2) (h7 : a.b3 = b.b3) (h8 : a.lg = b.lg) (h9 : a.ad = b.ad) (h10 : a.be = b.be) : a = b := by
  cases a; cases b
  simp only at h0 h1 h2 h3 h4 h5 h6 h7 h8 h9 h10
  subst h0 h1 h2 h3 h4 h5 h6 h7 h8 h9 h10
  rfl
theorem range_map {f : Nat → Int} {l : List Int} {n : Nat} (hn : n = l.length) (h : ∀ i, i < l.length → f i = l.getD i 0) : (List.range n).map f = l := by
  subst hn
  apply List.ext_getElem (by simp)
  intro i h1 h2
  rw [List.getElem_map, List.getElem_range, h i h2, List.getD_eq_getElem?_getD, List.getElem?_eq_getElem h2]
  rfl
set_option maxRecDepth 4000 in
theorem head_put (m : Mt) (hg : goodB m = true) (z : List UInt8) (hz : z.length = 4) (mx hd hh hx : ByteArray) (hmx : mx = ⟨(mxT m.ad.length).toArray⟩) (hhd : hd = ⟨((hdT m).take 8 ++ (z ++ (hdT m).drop 12)).toArray⟩) (hhh : hh = ⟨(hhT m m.ad.length).toArray⟩) (hhx : hx = ⟨(hmT m.ad m.be m.ad.length).toArray⟩) :
    allB mx hd hh hx = true ∧ rdM mx hd hh hx = m := by
  have hb := back_of m hg
  rw [← hmx, ← hhh, ← hhx] at hb
  obtain ⟨hr, bn, bh, bup, bsc, bde, bga, bb0, bb1, bb2, bb3, blg, bad, bbe⟩ := hb
  obtain ⟨g1, g2, g3, g4, g5, g6, g7⟩ := good_in hg
  have p0 := g3 m.b0 (by simp)
  have p1 := g3 m.b1 (by simp)
  have p2 := g3 m.b2 (by simp)
  have p3 := g3 m.b3 (by simp)
  obtain ⟨a, b, c, d, rfl⟩ : ∃ a b c d, z = [a, b, c, d] := by
    match z, hz with
    | [a, b, c, d], _ => exact ⟨a, b, c, d, rfl⟩
  have eL : (hdT m).take 8 ++ ([a, b, c, d] ++ (hdT m).drop 12) = [0, 1, 0, 0, 0, 1, 0, 0, a, b, c, d, 95, 15, 60, 245, 0, 0, hiB m.up, loB m.up, 0, 0, 0, 0, 0, 0, 0, 0, 0, 0, 0, 0, 0, 0, 0, 0, hiB m.b0, loB m.b0, hiB m.b1, loB m.b1, hiB m.b2, loB m.b2, hiB m.b3, loB m.b3, 0, 0, 0, 0, hiB 2, loB 2, hiB (Go.Proofs.YtpdfpbbamnhkfaaGreatDoor.lgI m.lg), loB (Go.Proofs.YtpdfpbbamnhkfaaGreatDoor.lgI m.lg), 0, 0] := by rw [hdT_eq]; rfl
  rw [eL] at hhd
  obtain ⟨L, hL⟩ : ∃ L, L = [0, 1, 0, 0, 0, 1, 0, 0, a, b, c, d, 95, 15, 60, 245, 0, 0, hiB m.up, loB m.up, 0, 0, 0, 0, 0, 0, 0, 0, 0, 0, 0, 0, 0, 0, 0, 0, hiB m.b0, loB m.b0, hiB m.b1, loB m.b1, hiB m.b2, loB m.b2, hiB m.b3, loB m.b3, 0, 0, 0, 0, hiB 2, loB 2, hiB (Go.Proofs.YtpdfpbbamnhkfaaGreatDoor.lgI m.lg), loB (Go.Proofs.YtpdfpbbamnhkfaaGreatDoor.lgI m.lg), 0, 0] := ⟨_, rfl⟩
  rw [← hL] at hhd
  have e18 : ((n2 L 18 : Nat) : Int) = m.up := n2_is (by rw [hL]; rfl) (by omega) (by omega)
  have e50 : ((n2 L 50 : Nat) : Int) = Go.Proofs.YtpdfpbbamnhkfaaGreatDoor.lgI m.lg := n2_is (by rw [hL]; rfl) (by unfold Go.Proofs.YtpdfpbbamnhkfaaGreatDoor.lgI; split <;> omega) (by unfold Go.Proofs.YtpdfpbbamnhkfaaGreatDoor.lgI; split <;> omega)
  have e52 : n2 L 52 = 0 := by rw [hL]; simp [n2, bt]
  have bhd : hdB ⟨L.toArray⟩ = true := by
    unfold hdB
    rw [say_list (t := verS) (by rw [hL]; rfl), say_list (t := magicS) (by rw [hL]; rfl), wiB_one, wiB_one]
    simp only [e18, e50, e52]
    cases m.lg <;> simp [Go.Proofs.YtpdfpbbamnhkfaaGreatDoor.lgI] <;> omega
  have hall : allB mx ⟨(hdT m).toArray⟩ hh hx = true := by
    unfold readV at hr
    rw [hmx, hhh, hhx, fin_mx, fin_hd, fin_hh, fin_hx] at hr
    simp only at hr
    rw [hmx, hhh, hhx]
    split at hr
    · assumption
    · cases hr
  refine ⟨?_, ?_⟩
  · unfold allB at hall ⊢
    simp only [Bool.and_eq_true] at hall ⊢
    refine ⟨hall.1, ⟨?_, by rw [hhd]; exact bhd⟩, hall.2.2⟩
    rw [hhd, hL]
    simp [ByteArray.size]
  · subst hhd
    refine Mt_ext ?_ bsc bde bga ?_ ?_ ?_ ?_ ?_ ?_ ?_
    · exact e18
    · exact s2_is (by show n2 L 36 = _; rw [hL]; rfl) p0.1 p0.2
    · exact s2_is (by show n2 L 38 = _; rw [hL]; rfl) p1.1 p1.2
    · exact s2_is (by show n2 L 40 = _; rw [hL]; rfl) p2.1 p2.2
    · exact s2_is (by show n2 L 42 = _; rw [hL]; rfl) p3.1 p3.2
    · show (((n2 L 50 : Nat) : Int) == 1) = m.lg
      rw [e50]
      cases m.lg <;> decide
    · exact range_map bn bad
    · exact range_map (by rw [g5]; exact bn) (fun i hi => bbe i (by omega))
theorem bk_fin {M : List Tab} {n : Nat} (hgo : S8.goM M) (hn : M.length = n) (x : Tab) (hx : x ∈ M) (hne : S8.eqS x.1 ⟨#[104, 101, 97, 100]⟩ = false) : finV (S8.bkM M n) x.1 = some x.2 := by
  obtain ⟨k, hk, hxe⟩ := List.getElem_of_mem hx
  have hg : M.getD k S8.tz = x := by rw [List.getD_eq_getElem?_getD, List.getElem?_eq_getElem hk]; exact hxe
  have hb : S8.bkS M n k = x := by
    unfold S8.bkS S8.bkD S8.isH
    rw [hg, hne]
    simp
  exact S8.fin_of (S8.bkM M n) (S8.st_pw ((S8.go_iff _).1 (S8.bk_go hgo hn)).2) x (by unfold S8.bkM; rw [List.mem_map]; exact ⟨k, by simp; omega, hb⟩)
theorem bk_finH {M : List Tab} {n : Nat} (hgo : S8.goM M) (hn : M.length = n) (d : ByteArray) (hx : (headS, d) ∈ M) (hd : 12 ≤ d.size) : finV (S8.bkM M n) headS = some ⟨(d.data.toList.take 8 ++ (S8.nuT M n ++ d.data.toList.drop 12)).toArray⟩ := by
  obtain ⟨k, hk, hxe⟩ := List.getElem_of_mem hx
  have hg : M.getD k S8.tz = (headS, d) := by rw [List.getD_eq_getElem?_getD, List.getElem?_eq_getElem hk]; exact hxe
  have hb : S8.bkS M n k = (headS, ⟨(d.data.toList.take 8 ++ (S8.nuT M n ++ d.data.toList.drop 12)).toArray⟩) := by
    unfold S8.bkS S8.bkD S8.isH
    rw [hg, show S8.eqS headS ⟨#[104, 101, 97, 100]⟩ = true from (S8.eqS_iff _ _).2 rfl]
    simp [hd]
  exact S8.fin_of (S8.bkM M n) (S8.st_pw ((S8.go_iff _).1 (S8.bk_go hgo hn)).2) _ (by unfold S8.bkM; rw [List.mem_map]; exact ⟨k, by simp; omega, hb⟩)
theorem spl_all (gs : List ByteArray) (hj : (G10.jg gs).length ≤ 1048576) : G10.splV (G10.jl 0 gs ++ G10.p4 (((G10.jg gs).length : Nat) : Int)) (gtT gs) gs.length true = pdG gs := by
  unfold G10.splV pdG
  apply List.ext_getElem (by simp)
  intro i h1 h2
  have hi : i < gs.length := by simpa using h2
  rw [List.getElem_map, List.getElem_range, List.getElem_map]
  apply S8.bs_ext
  rw [G10.spl_at gs (gtT gs) rfl hj i hi, pdS_l, List.getD_eq_getElem?_getD, List.getElem?_eq_getElem hi]
  rfl
set_option maxHeartbeats 1000000 in
theorem ld_back {m : Mt} {gs : List ByteArray} {cs : List C11.Ch} (hE : svE m gs cs = 0) (hj : (G10.jg gs).length ≤ 1048576) : ldV (svS m gs cs) = .ok (lgM m, pdG gs, cs) := by
  have hck : ckV m gs cs = 0 := by
    unfold svE at hE
    by_cases h : ckV m gs cs = 0
    · exact h
    · rw [if_neg h] at hE; exact hE
  unfold svE at hE
  rw [if_pos hck] at hE
  obtain ⟨hg, hl, ⟨hl1, hl2⟩, hgo⟩ := ck_in hck
  have hgl : goodB (lgM m) = true := hg
  have hsv : svS m gs cs = ⟨(S8.txtV (S8.sorV (svT m gs cs))).toArray⟩ := by
    unfold svS; rw [if_pos hck]; unfold S8.btS; rw [if_pos hE]
  obtain ⟨hGo, hlen, hpl, _, _⟩ := S8.ok_facts hE
  have hT7 : (svT m gs cs).length = 7 := rfl
  rw [hT7] at hlen hpl
  have hper := S8.sor_perm (svT m gs cs)
  have hmem : ∀ x, x ∈ svT m gs cs → x ∈ S8.sorV (svT m gs cs) := fun x hx => hper.mem_iff.2 hx
  generalize S8.sorV (svT m gs cs) = M at *
  have herr := S8.txt_err hGo hlen (by omega) (by omega) hpl
  have htab := S8.txt_tab hGo hlen (by omega) (by omega) hpl
  have f1 := bk_fin hGo hlen (maxpS, ⟨(mxT m.ad.length).toArray⟩) (hmem _ (by simp [svT, tabs, lgM])) (S8.eqS_no (show maxpS ≠ _ by decide))
  have f2 := bk_fin hGo hlen (hheaS, ⟨(hhT (lgM m) m.ad.length).toArray⟩) (hmem _ (by simp [svT, tabs, lgM])) (S8.eqS_no (show hheaS ≠ _ by decide))
  have f3 := bk_fin hGo hlen (hmtxS, ⟨(hmT m.ad m.be m.ad.length).toArray⟩) (hmem _ (by simp [svT, tabs, lgM])) (S8.eqS_no (show hmtxS ≠ _ by decide))
  have f4 := bk_finH hGo hlen ⟨(hdT (lgM m)).toArray⟩ (hmem _ (by simp [svT, tabs])) (by simp [ByteArray.size, hdT_len])
  have f5 := bk_fin hGo hlen (locaS, ltT gs) (hmem _ (by simp [svT])) (S8.eqS_no (show locaS ≠ _ by decide))
  have f6 := bk_fin hGo hlen (glyfS, gtT gs) (hmem _ (by simp [svT])) (S8.eqS_no (show glyfS ≠ _ by decide))
  have f7 := bk_fin hGo hlen (cmapS, ctT cs) (hmem _ (by simp [svT])) (S8.eqS_no (show cmapS ≠ _ by decide))
  obtain ⟨hall, hrd⟩ := head_put (lgM m) hgl (S8.nuT M 7) (S8.nu_len M 7) _ _ _ _ rfl rfl rfl rfl
  have hrO : rdO (S8.bkM M 7) = some (lgM m) := by
    unfold rdO
    rw [rdv_yes f1 f4 f2 f3 hall]
    exact congrArg some hrd
  have hou : ouV (S8.bkM M 7) m.ad.length true = some (pdG gs) := by
    unfold ouV
    rw [f5, f6]
    simp only
    have h1 := G10.spl_join gs hl1 hl2 hj
    rw [← hl]
    rw [show (ltT gs).data.toList = G10.jl 0 gs ++ G10.p4 (((G10.jg gs).length : Nat) : Int) from rfl, show (gtT gs).size = (G10.jg gs).length by unfold gtT; simp [ByteArray.size], h1, if_pos rfl]
    rw [spl_all gs hj]
  have hch : chV (S8.bkM M 7) m.ad.length = some cs := by
    unfold chV
    rw [f7]
    simp only
    rw [← hl]
    exact C11.wide_n gs.length hl2 cs hgo
  have hck2 := ck_pd hck
  unfold ldV
  rw [hsv, htab]
  rw [show S8.errV (⟨(S8.txtV M).toArray⟩ : ByteArray).data.toList = 0 from herr, if_pos rfl, hrO]
  simp only
  rw [show (lgM m).ad.length = m.ad.length from rfl, show (lgM m).lg = true from rfl, hou]
  simp only
  rw [hch]
  simp only
  rw [if_pos hck2]
end Go.Proofs.YtpdfpbbamnhkfaaGreatDoor.F12
namespace Go.Proofs.YtpdfpbbamnhkfaaGreatDoor.F12
open Go.RowKit Go.Deep
set_option linter.unusedVariables false
set_option linter.unusedSimpArgs false
def mixF (gs : List ByteArray) (k i : Nat) : ByteArray := if i < k then pdS (gs.getD i ⟨#[]⟩) else gs.getD i ⟨#[]⟩
def mixL (gs : List ByteArray) (k : Nat) : List ByteArray := (List.range gs.length).map (mixF gs k)
theorem mixL_len (gs : List ByteArray) (k : Nat) : (mixL gs k).length = gs.length := by unfold mixL; simp
theorem mixL_at (gs : List ByteArray) (k i : Nat) (h : i < gs.length) : (mixL gs k).getD i ⟨#[]⟩ = mixF gs k i := by
  unfold mixL
  rw [List.getD_eq_getElem?_getD, List.getElem?_map, List.getElem?_range h]
  rfl
theorem ext_getD {l m : List ByteArray} (hl : l.length = m.length) (h : ∀ i, i < m.length → l.getD i ⟨#[]⟩ = m.getD i ⟨#[]⟩) : l = m := by
  apply List.ext_getElem hl
  intro i h1 h2
  have := h i h2
  rw [List.getD_eq_getElem?_getD, List.getD_eq_getElem?_getD, List.getElem?_eq_getElem h1, List.getElem?_eq_getElem h2] at this
  exact this
theorem mixL_zero (gs : List ByteArray) : mixL gs 0 = gs := ext_getD (mixL_len gs 0) fun i hi => by
  rw [mixL_at gs 0 i hi]; unfold mixF; rw [if_neg (by omega)]
theorem mixL_all (gs : List ByteArray) : mixL gs gs.length = pdG gs := ext_getD (by rw [mixL_len, pdG_len]) fun i hi => by
  rw [pdG_len] at hi
  rw [mixL_at gs _ i hi, pdG_get gs i hi]; unfold mixF; rw [if_pos hi]
theorem mix_set {w : World} {g : Nat} {gs : List ByteArray} {k : Nat} (h : G10.SLst w (some ⟨g, 0, none⟩) (mixL gs k)) (hk : k < gs.length) : G10.SLst (w.setCell ⟨g, k, none⟩ (.string (pdS (gs.getD k ⟨#[]⟩)))) (some ⟨g, 0, none⟩) (mixL gs (k + 1)) := by
  rcases h with hz | ⟨b, o, h1, h2, h3⟩
  · have := mixL_len gs k; rw [hz] at this; simp at this; omega
  · obtain ⟨rfl, rfl⟩ : g = b ∧ 0 = o := by simpa using h1
    refine Or.inr ⟨g, 0, rfl, by simpa [World.setCell] using h2, fun i hi => ?_⟩
    rw [mixL_len] at hi
    have hi3 := h3 i (by rw [mixL_len]; exact hi)
    have hk3 := h3 k (by rw [mixL_len]; exact hk)
    rw [Nat.zero_add, mixL_at gs _ _ hi] at *
    by_cases e : i = k
    · subst e
      rw [World.cell?_setCell_same' _ _ _ (by rw [hk3]; rfl)]
      unfold mixF
      rw [if_pos (by omega)]
    · rw [show (w.setCell ⟨g, k, none⟩ (.string (pdS (gs.getD k ⟨#[]⟩)))).cell? ⟨g, i, none⟩ = w.cell? ⟨g, i, none⟩ from World.cell?_setCell_other _ _ _ _ (by intro h; injection h with _ h; exact e h.symm), hi3]
      unfold mixF
      by_cases h4 : i < k
      · rw [if_pos h4, if_pos (by omega)]
      · rw [if_neg h4, if_neg (by omega)]
theorem lst_setS {w : World} {g k : Nat} {x : ByteArray} {a : Option Addr} {l : List Int} (h : Lst w a l) (hc : w.cell? ⟨g, k, none⟩ = some (.string x)) (v : Value) : Lst (w.setCell ⟨g, k, none⟩ v) a l := by
  rcases h with h | ⟨b, o, h1, h2, h3⟩
  · exact Or.inl h
  · refine Or.inr ⟨b, o, h1, by simpa [World.setCell] using h2, fun i hi => ?_⟩
    rw [World.cell?_setCell_other]
    · exact h3 i hi
    · intro e
      have hx := h3 i hi
      rw [← e, hc] at hx
      cases hx
theorem clst_setS {w : World} {g k : Nat} {x : ByteArray} {a : Option Addr} {l : List C11.Ch} (h : C11.CLst w a l) (hc : w.cell? ⟨g, k, none⟩ = some (.string x)) (v : Value) : C11.CLst (w.setCell ⟨g, k, none⟩ v) a l := by
  rcases h with h | ⟨b, o, h1, h2, h3⟩
  · exact Or.inl h
  · have key : ∀ (j : Nat) (z : Int), w.cell? ⟨b, j, none⟩ = some (.int .i64 z) → (w.setCell ⟨g, k, none⟩ v).cell? ⟨b, j, none⟩ = some (.int .i64 z) := fun j z hz => by
      rw [World.cell?_setCell_other]
      · exact hz
      · intro e
        rw [← e, hc] at hz
        cases hz
    exact Or.inr ⟨b, o, h1, by simpa [World.setCell] using h2, fun i hi => ⟨key _ _ (h3 i hi).1, key _ _ (h3 i hi).2.1, key _ _ (h3 i hi).2.2⟩⟩
structure PdI (w : World) (ad be : List Int) (gs : List ByteArray) (cs : List C11.Ch) (p q g c n G R k : Nat) (GC : Array Value) (wr : World) : Prop where
  kG : Blk wr G GC 29
  kR : Blk wr R zf 29
  l1 : Lst wr (some ⟨p, 0, none⟩) ad
  l2 : Lst wr (some ⟨q, 0, none⟩) be
  l3 : G10.SLst wr (some ⟨g, 0, none⟩) (mixL gs k)
  l4 : C11.CLst wr (some ⟨c, 0, none⟩) cs
  fz : ∀ i, i < n → g < wr.heap.size ∧ wr.frozen? ⟨g, i, none⟩ = false
  nG : ∀ i, i < n → g ≠ G
  nR : ∀ i, i < n → g ≠ R
  bl : Below w.heap.size w wr
  ge : ∀ i, i < n → w.heap.size ≤ g
theorem PdI.same {w : World} {ad be : List Int} {gs : List ByteArray} {cs : List C11.Ch} {p q g c n G R k : Nat} {GC : Array Value} {wr u : World} (h : PdI w ad be gs cs p q g c n G R k GC wr) (hu : Below wr.heap.size wr u) : PdI w ad be gs cs p q g c n G R k GC u :=
  ⟨h.kG.below hu, h.kR.below hu, h.l1.below hu, h.l2.below hu, h.l3.below hu, h.l4.below hu, fun i hi => ⟨Nat.lt_of_lt_of_le (h.fz i hi).1 hu.size, (hu.frozen (p := ⟨g, i, none⟩) (h.fz i hi).1).trans (h.fz i hi).2⟩, h.nG, h.nR, below_t5 h.bl hu, h.ge⟩
theorem PdI.put {w : World} {ad be : List Int} {gs : List ByteArray} {cs : List C11.Ch} {p q g c n G R k : Nat} {GC : Array Value} {wr : World} (h : PdI w ad be gs cs p q g c n G R k GC wr) (hn : gs.length = n) (hk : k < n) : PdI w ad be gs cs p q g c n G R (k + 1) GC (wr.setCell ⟨g, k, none⟩ (.string (pdS (gs.getD k ⟨#[]⟩)))) := by
  obtain ⟨x, hx⟩ : ∃ x, wr.cell? ⟨g, k, none⟩ = some (.string x) := by
    rcases h.l3 with hz | ⟨b, o, h1, h2, h3⟩
    · have := mixL_len gs k; rw [hz] at this; simp at this; omega
    · obtain ⟨rfl, rfl⟩ : g = b ∧ 0 = o := by simpa using h1
      exact ⟨_, by have := h3 k (by rw [mixL_len]; omega); rwa [Nat.zero_add] at this⟩
  exact ⟨h.kG.other (Ne.symm (h.nG k hk)) k _, h.kR.other (Ne.symm (h.nR k hk)) k _, lst_setS h.l1 hx _, lst_setS h.l2 hx _, mix_set h.l3 (by omega), clst_setS h.l4 hx _, fun i hi => ⟨by simpa [World.setCell] using (h.fz i hi).1, by simpa using (h.fz i hi).2⟩, h.nG, h.nR, h.bl.setCell (p := ⟨g, k, none⟩) (h.ge k hk) _, h.ge⟩
theorem rpadS_any (s : ByteArray) (w : World) (hs : s.size ≤ 1048576) : Calls Tryz.prog 61 #[.string s] w fun e w' => e = .returned (.string (pdS s)) ∧ w' = w := (S8.rpad_any s w hs).mono fun e w' ⟨p, he, hp, hw⟩ => by
  have : p = pdS s := S8.bs_ext hp
  subst this
  exact ⟨he, hw⟩
set_option maxRecDepth 8000 in
set_option maxHeartbeats 8000000 in
theorem rpadded_any (m : Mt) (aa ab ga ca : Option Addr) (na nb ng nc ka kb kg kc : Nat) (gs : List ByteArray) (cs : List C11.Ch) (w : World) (hna : m.ad.length = na) (hnb : m.be.length = nb) (hng : gs.length = ng) (hnc : cs.length = nc) (hma : na ≤ 100000) (hmb : nb ≤ 100000) (hmg : ng ≤ 100000) (hmc : nc ≤ 100000) (hz : ∀ g ∈ gs, g.size ≤ 1048576) (hA : Lst w aa m.ad) (hB : Lst w ab m.be) (hG : G10.SLst w ga gs) (hC : C11.CLst w ca cs) :
    Calls Tryz.prog 25 #[.agg (fcs m (.slice aa na ka) (.slice ab nb kb) (.slice ga ng kg) (.slice ca nc kc))] w (CoR (lgM m) (pdG gs) cs na nb ng nc w) := by
  have hmg' : (ng : Int) ≤ 100000 := by omega
  have CC := hide (fun (u : World) (hu : Below w.heap.size w u) => copy_fr m aa ab ga ca na nb ng nc ka kb kg kc gs cs u hna hnb hng hnc hma hmb hmg hmc (hA.below hu) (hB.below hu) (hG.below hu) (hC.below hu))
  have CP := hide (fun (k : Nat) (hk : k < ng) (u : World) => rpadS_any (gs.getD k ⟨#[]⟩) u (by rw [List.getD_eq_getElem?_getD, List.getElem?_eq_getElem (by omega)]; exact hz _ (List.getElem_mem _)))
  have b1' := (Below.refl w.heap.size w).alloc (Nat.le_refl _) (.cells (fcs m (.slice aa na ka) (.slice ab nb kb) (.slice ga ng kg) (.slice ca nc kc)) 29)
  have k1 := Blk.new w (fcs m (.slice aa na ka) (.slice ab nb kb) (.slice ga ng kg) (.slice ca nc kc)) 29
  have z1 : (w.alloc (.cells (fcs m (.slice aa na ka) (.slice ab nb kb) (.slice ga ng kg) (.slice ca nc kc)) 29)).heap.size = w.heap.size + 1 := by simp
  have HNG := hide hng
  have HMG := hide hmg
  obtain ⟨up, sc, de, gap, b0, b1, b2, b3, lg, ad, be⟩ := m
  simp only [fcs, CoF, CoR, lgM] at CC b1' k1 z1 ⊢
  clear hna hnb hng hnc hma hmb hmg hmc hz hA hB hG hC
  go_enter Tryz.func25, Tryz.ntmps25
  go_upto_region 1 with (fail)
  rw [← z1]
  generalize w.alloc (.cells #[.int .i64 up, .int .i64 sc, .int .i64 de, .int .i64 gap, .int .i64 b0, .int .i64 b1, .int .i64 b2, .int .i64 b3, .bool lg, .slice aa na ka, .slice ab nb kb, .slice ga ng kg, .slice ca nc kc] 29) = U at b1' k1 z1 ⊢
  have bU := (Below.refl U.heap.size U).alloc (Nat.le_refl _) (.cells zf 29)
  have kZ := Blk.new U zf 29
  have k2 := k1.below bU
  have bV := below_t5 b1' bU
  generalize U.alloc (.cells zf 29) = V at bU kZ k2 bV ⊢
  obtain ⟨R, hR⟩ : ∃ R, U.heap.size = R := ⟨_, rfl⟩
  rw [hR] at kZ z1 ⊢
  have x0 := k2.cell 0
  have x1 := k2.cell 1
  have x2 := k2.cell 2
  have x3 := k2.cell 3
  have x4 := k2.cell 4
  have x5 := k2.cell 5
  have x6 := k2.cell 6
  have x7 := k2.cell 7
  have x8 := k2.cell 8
  have x9 := k2.cell 9
  have x10 := k2.cell 10
  have x11 := k2.cell 11
  have x12 := k2.cell 12
  simp at x0 x1 x2 x3 x4 x5 x6 x7 x8 x9 x10 x11 x12
  have flt := k2.lt
  have HKZ := hide kZ
  have HBV := hide bV
  have HR : Hid (w.heap.size ≤ R) := hide (by omega)
  have CC1 := hide (CC.out V bV)
  clear b1' k1 z1 bU kZ k2 bV hR CC
  go_wp2_with fail
  refine CC1.out.mono ?_
  rintro e w2 ⟨p, q, g, c, kp, kq, kg', kc', rfl, i1, i2, i3, i4, h2, hfz, hp1, hq1, hc1⟩
  have HNE := hide (show p ≠ R ∧ q ≠ R ∧ (cs = [] ∨ ∃ b, some (⟨c, 0, none⟩ : Addr) = some ⟨b, 0, none⟩ ∧ b ≠ R) from ⟨by have := HKZ.out.lt; omega, by have := HKZ.out.lt; omega, hc1.imp id (fun h => ⟨c, rfl, by have := HKZ.out.lt; omega⟩)⟩)
  clear hp1 hq1 hc1
  have bX := (Below.refl w2.heap.size w2).alloc (Nat.le_refl _) (.cells #[.int .i64 up, .int .i64 sc, .int .i64 de, .int .i64 gap, .int .i64 b0, .int .i64 b1, .int .i64 b2, .int .i64 b3, .bool true, .slice (some ⟨p, 0, none⟩) na kp, .slice (some ⟨q, 0, none⟩) nb kq, .slice (some ⟨g, 0, none⟩) ng kg', .slice (some ⟨c, 0, none⟩) nc kc'] 29)
  have kG := Blk.new w2 #[.int .i64 up, .int .i64 sc, .int .i64 de, .int .i64 gap, .int .i64 b0, .int .i64 b1, .int .i64 b2, .int .i64 b3, .bool true, .slice (some ⟨p, 0, none⟩) na kp, .slice (some ⟨q, 0, none⟩) nb kq, .slice (some ⟨g, 0, none⟩) ng kg', .slice (some ⟨c, 0, none⟩) nc kc'] 29
  have hP : PdI w ad be gs cs p q g c ng w2.heap.size R 0 #[.int .i64 up, .int .i64 sc, .int .i64 de, .int .i64 gap, .int .i64 b0, .int .i64 b1, .int .i64 b2, .int .i64 b3, .bool true, .slice (some ⟨p, 0, none⟩) na kp, .slice (some ⟨q, 0, none⟩) nb kq, .slice (some ⟨g, 0, none⟩) ng kg', .slice (some ⟨c, 0, none⟩) nc kc'] (w2.alloc (.cells #[.int .i64 up, .int .i64 sc, .int .i64 de, .int .i64 gap, .int .i64 b0, .int .i64 b1, .int .i64 b2, .int .i64 b3, .bool true, .slice (some ⟨p, 0, none⟩) na kp, .slice (some ⟨q, 0, none⟩) nb kq, .slice (some ⟨g, 0, none⟩) ng kg', .slice (some ⟨c, 0, none⟩) nc kc'] 29)) := by
    refine ⟨kG, (HKZ.out.below h2).below bX, i1.below bX, i2.below bX, by rw [mixL_zero]; exact i3.below bX, i4.below bX, fun i hi => ⟨Nat.lt_of_lt_of_le (hfz i hi).1 bX.size, (bX.frozen (p := ⟨g, i, none⟩) (hfz i hi).1).trans (hfz i hi).2.1⟩, fun i hi => ?_, fun i hi => ?_, below_t5 (below_t5 HBV.out h2) bX, fun i hi => Nat.le_trans HBV.out.size (hfz i hi).2.2⟩
    · have := (hfz i hi).1; omega
    · have := (hfz i hi).2.2; have := HKZ.out.lt; omega
  clear bX kG i1 i2 i3 i4 h2 hfz HKZ HBV CC1 flt x0 x1 x2 x3 x4 x5 x6 x7 x8 x9 x10 x11 x12
  go_upto_region 3 with (fail)
  obtain ⟨G, hGe⟩ : ∃ G, w2.heap.size = G := ⟨_, rfl⟩
  generalize w2.alloc (.cells #[.int .i64 up, .int .i64 sc, .int .i64 de, .int .i64 gap, .int .i64 b0, .int .i64 b1, .int .i64 b2, .int .i64 b3, .bool true, .slice (some ⟨p, 0, none⟩) na kp, .slice (some ⟨q, 0, none⟩) nb kq, .slice (some ⟨g, 0, none⟩) ng kg', .slice (some ⟨c, 0, none⟩) nc kc'] 29) = W at hP ⊢
  rw [hGe] at hP ⊢
  have HP := hide hP
  clear hP hGe
  go_wp2_with fail
  go_loopw [4] (fun vi wr => ∃ k : Nat, vi = .int .i64 (k : Int) ∧ Hid (k ≤ ng ∧ PdI w ad be gs cs p q g c ng G R k #[.int .i64 up, .int .i64 sc, .int .i64 de, .int .i64 gap, .int .i64 b0, .int .i64 b1, .int .i64 b2, .int .i64 b3, .bool true, .slice (some ⟨p, 0, none⟩) na kp, .slice (some ⟨q, 0, none⟩) nb kq, .slice (some ⟨g, 0, none⟩) ng kg', .slice (some ⟨c, 0, none⟩) nc kc'] wr)) (fun vi _ => ng - (intOf vi).toNat)
  case atStart => exact ⟨0, rfl, hide ⟨by omega, HP.out⟩⟩
  case round =>
    clear HP
    obtain ⟨k, rfl, HV⟩ := hrel
    obtain ⟨hk, hP⟩ := HV.out
    have hk0 : (0 : Int) ≤ (k : Int) := by omega
    have HP := hide hP
    clear HV
    have kG := hP.kG
    have y0 := kG.cell 0
    have y1 := kG.cell 1
    have y2 := kG.cell 2
    have y3 := kG.cell 3
    have y4 := kG.cell 4
    have y5 := kG.cell 5
    have y6 := kG.cell 6
    have y7 := kG.cell 7
    have y8 := kG.cell 8
    have y9 := kG.cell 9
    have y10 := kG.cell 10
    have y11 := kG.cell 11
    have y12 := kG.cell 12
    simp at y0 y1 y2 y3 y4 y5 y6 y7 y8 y9 y10 y11 y12
    have glt := kG.lt
    by_cases hlt : k < ng
    · have hlt' : (k : Int) < (ng : Int) := by omega
      obtain ⟨x, hx⟩ : ∃ x, gs.getD k ⟨#[]⟩ = x := ⟨_, rfl⟩
      have gc : wr.cell? ⟨g, k, none⟩ = some (.string x) := by
        rcases hP.l3 with hz | ⟨b, o, h1, h2, h3⟩
        · have := mixL_len gs k; rw [hz] at this; have := HNG.out; simp at *; omega
        · obtain ⟨rfl, rfl⟩ : g = b ∧ 0 = o := by simpa using h1
          have := h3 k (by rw [mixL_len, HNG.out]; exact hlt)
          rw [Nat.zero_add, mixL_at gs k k (by rw [HNG.out]; exact hlt)] at this
          rw [this, ← hx]
          unfold mixF
          rw [if_neg (by omega)]
      have gf := (hP.fz k hlt).2
      have gl := (hP.fz k hlt).1
      have CP1 := hide (fun (u : World) => CP.out k hlt u)
      have HPUT : Hid (∀ u : World, Below wr.heap.size wr u → PdI w ad be gs cs p q g c ng G R (k + 1) #[.int .i64 up, .int .i64 sc, .int .i64 de, .int .i64 gap, .int .i64 b0, .int .i64 b1, .int .i64 b2, .int .i64 b3, .bool true, .slice (some ⟨p, 0, none⟩) na kp, .slice (some ⟨q, 0, none⟩) nb kq, .slice (some ⟨g, 0, none⟩) ng kg', .slice (some ⟨c, 0, none⟩) nc kc'] (u.setCell ⟨g, k, none⟩ (.string (pdS x)))) := hide fun u hu => by rw [← hx]; exact (hP.same hu).put HNG.out hlt
      rw [hx] at CP1
      clear hP kG hx hlt CP HP
      go_wp2_with fail
      go_region_with ((go_at_call 61; refine (CP1.out _).mono ?_; rintro e y9 ⟨rfl, hy9⟩; replace hy9 := hy9.symm; subst hy9))
      all_goals (
        go_wp2_with fail
        go_roundw
        case rel => exact ⟨k + 1, by go_num, hide ⟨by omega, (HPUT.out wr (Below.refl _ _)).same (below_d (Below.refl _ _) (Below.refl _ _) rfl rfl rfl rfl)⟩⟩
        case measure => simp [intOf]; omega)
    · have hlt' : ¬ (k : Int) < (ng : Int) := by omega
      obtain rfl : ng = k := by omega
      have kR := hP.kR
      have r0 := kR.cell 0
      have r1 := kR.cell 1
      have r2 := kR.cell 2
      have r3 := kR.cell 3
      have r4 := kR.cell 4
      have r5 := kR.cell 5
      have r6 := kR.cell 6
      have r7 := kR.cell 7
      have r8 := kR.cell 8
      have r9 := kR.cell 9
      have r10 := kR.cell 10
      have r11 := kR.cell 11
      have r12 := kR.cell 12
      simp at r0 r1 r2 r3 r4 r5 r6 r7 r8 r9 r10 r11 r12
      have z0 := kR.frozen 0
      have z1 := kR.frozen 1
      have z2 := kR.frozen 2
      have z3 := kR.frozen 3
      have z4 := kR.frozen 4
      have z5 := kR.frozen 5
      have z6 := kR.frozen 6
      have z7 := kR.frozen 7
      have z8 := kR.frozen 8
      have z9 := kR.frozen 9
      have z10 := kR.frozen 10
      have z11 := kR.frozen 11
      have z12 := kR.frozen 12
      have rlt := kR.lt
      have HST := hide (store13 kR (.int .i64 up) (.int .i64 sc) (.int .i64 de) (.int .i64 gap) (.int .i64 b0) (.int .i64 b1) (.int .i64 b2) (.int .i64 b3) (.bool true) (.slice (some ⟨p, 0, none⟩) na kp) (.slice (some ⟨q, 0, none⟩) nb kq) (.slice (some ⟨g, 0, none⟩) ng kg') (.slice (some ⟨c, 0, none⟩) nc kc'))
      have HKR := hide kR
      have HNR := hide (show G ≠ R from fun e => by
        have h1 := hP.kG.cell 8
        have h2 := kR.cell 8
        rw [e] at h1
        rw [h1] at h2
        simp at h2)
      clear hP kG kR hlt CP
      go_wp2_with fail
      have h := HST.out
      have hP := HP.out
      have v1 := hP.l1.but h.2 HNE.out.1
      have v2 := hP.l2.but h.2 HNE.out.2.1
      have v3 := slst_but hP.l3 h.2 HKR.out (fun _ _ => nos)
      have v4 := clst_but hP.l4 h.2 HNE.out.2.2
      have v5 := h.2.below hP.bl HR.out
      have e3 : mixL gs ng = pdG gs := by have h0 := mixL_all gs; rw [HNG.out] at h0; exact h0
      rw [e3] at v3
      clear HST hP HP r0 r1 r2 r3 r4 r5 r6 r7 r8 r9 r10 r11 r12 z0 z1 z2 z3 z4 z5 z6 z7 z8 z9 z10 z11 z12 rlt glt y0 y1 y2 y3 y4 y5 y6 y7 y8 y9 y10 y11 y12
      generalize (((((((((((((wr.setCell ⟨R, 0, none⟩ (.int .i64 up)).setCell ⟨R, 1, none⟩ (.int .i64 sc)).setCell ⟨R, 2, none⟩ (.int .i64 de)).setCell ⟨R, 3, none⟩ (.int .i64 gap)).setCell ⟨R, 4, none⟩ (.int .i64 b0)).setCell ⟨R, 5, none⟩ (.int .i64 b1)).setCell ⟨R, 6, none⟩ (.int .i64 b2)).setCell ⟨R, 7, none⟩ (.int .i64 b3)).setCell ⟨R, 8, none⟩ (.bool true)).setCell ⟨R, 9, none⟩ (.slice (some ⟨p, 0, none⟩) na kp)).setCell ⟨R, 10, none⟩ (.slice (some ⟨q, 0, none⟩) nb kq)).setCell ⟨R, 11, none⟩ (.slice (some ⟨g, 0, none⟩) ng kg')).setCell ⟨R, 12, none⟩ (.slice (some ⟨c, 0, none⟩) nc kc')) = Z at h v1 v2 v3 v4 v5 ⊢
      have qq0 := h.1.cell 0
      have qq1 := h.1.cell 1
      have qq2 := h.1.cell 2
      have qq3 := h.1.cell 3
      have qq4 := h.1.cell 4
      have qq5 := h.1.cell 5
      have qq6 := h.1.cell 6
      have qq7 := h.1.cell 7
      have qq8 := h.1.cell 8
      have qq9 := h.1.cell 9
      have qq10 := h.1.cell 10
      have qq11 := h.1.cell 11
      have qq12 := h.1.cell 12
      simp at qq0 qq1 qq2 qq3 qq4 qq5 qq6 qq7 qq8 qq9 qq10 qq11 qq12
      exact bodyPost_ret (v := .agg #[.int .i64 up, .int .i64 sc, .int .i64 de, .int .i64 gap, .int .i64 b0, .int .i64 b1, .int .i64 b2, .int .i64 b3, .bool true, .slice (some ⟨p, 0, none⟩) na kp, .slice (some ⟨q, 0, none⟩) nb kq, .slice (some ⟨g, 0, none⟩) ng kg', .slice (some ⟨c, 0, none⟩) nc kc']) (by simp [results, Tryz.results25, go_sem, qq0, qq1, qq2, qq3, qq4, qq5, qq6, qq7, qq8, qq9, qq10, qq11, qq12]) rfl ⟨p, q, g, c, kp, kq, kg', kc', rfl, v1, v2, v3, v4, v5⟩
end Go.Proofs.YtpdfpbbamnhkfaaGreatDoor.F12
namespace Go.Proofs.YtpdfpbbamnhkfaaGreatDoor.F12
open Go.RowKit Go.Deep
set_option linter.unusedVariables false
set_option linter.unusedSimpArgs false
abbrev svTags : List ByteArray := [headS, hheaS, hmtxS, maxpS, locaS, glyfS, cmapS]
theorem sv_tags (m : Mt) (gs : List ByteArray) (cs : List C11.Ch) : (svT m gs cs).map (·.1) = svTags := rfl
theorem sv_go (m : Mt) (gs : List ByteArray) (cs : List C11.Ch) : S8.goM (S8.sorV (svT m gs cs)) := by
  have hp := S8.sor_perm (svT m gs cs)
  have hpt : ((S8.sorV (svT m gs cs)).map (·.1)).Perm svTags := by rw [← sv_tags m gs cs]; exact hp.map _
  have hnd : ((S8.sorV (svT m gs cs)).map (·.1)).Nodup := hpt.nodup_iff.2 (by decide +kernel)
  refine (S8.go_iff _).2 ⟨fun x hx => ?_, S8.srt_st _ (S8.sor_srt _) fun i h e => ?_⟩
  · have : x.1 ∈ svTags := hpt.mem_iff.1 (List.mem_map_of_mem hx)
    revert this
    generalize x.1 = t
    intro ht
    have hall : ∀ t ∈ svTags, S8.tagB t = true := by decide +kernel
    exact hall t ht
  · have := (List.pairwise_iff_getElem.1 hnd) i (i + 1) (by simp; omega) (by simpa using h) (by omega)
    rw [List.getElem_map, List.getElem_map] at this
    exact this e
theorem pl_le7 (M : List Tab) (B : Nat) (h : ∀ x ∈ M, x.2.size ≤ B) (h4 : ∀ k, k < M.length → (M.getD k S8.tz).1.size = 4) : ∀ k, k ≤ M.length → S8.plT M k ≤ 12 + 16 * M.length + k * (B + 3)
  | 0, _ => by unfold S8.plT S8.bodT; simp
  | k + 1, hk => by
    have ih := pl_le7 M B h h4 k (by omega)
    have hd : (S8.dOf M k).size ≤ B := by
      rw [Lib.size_eq, S8.dOf_list M k (h4 k (by omega))]
      have hx : (M.getD k S8.tz).2.size ≤ B := by
        rw [List.getD_eq_getElem?_getD, List.getElem?_eq_getElem (by omega)]
        exact h _ (List.getElem_mem _)
      rw [Lib.size_eq] at hx
      split
      · rename_i hH
        unfold S8.isH at hH
        rw [Bool.and_eq_true, decide_eq_true_eq, Lib.size_eq] at hH
        rw [List.length_append, List.length_append, List.length_take, List.length_drop]
        have h12 := hH.2
        show min 8 (M.getD k S8.tz).2.data.toList.length + (4 + ((M.getD k S8.tz).2.data.toList.length - 12)) ≤ B
        omega
      · exact hx
    unfold S8.plT at ih ⊢
    rw [S8.bodT, List.length_append, S8.padT_sz, ← Lib.size_eq]
    have : (k + 1) * (B + 3) = k * (B + 3) + (B + 3) := Nat.succ_mul _ _
    omega
theorem sv_ok {m : Mt} {gs : List ByteArray} {cs : List C11.Ch} (hck : ckV m gs cs = 0) (hj : (G10.jg gs).length ≤ 40000) (hg : gs.length ≤ 200) (hc : cs.length ≤ 200) (ha : m.ad.length ≤ 200) : svE m gs cs = 0 ∧ (svS m gs cs).size ≤ 1000000 := by
  have hp := S8.sor_perm (svT m gs cs)
  have hgo := sv_go m gs cs
  have hlen : (S8.sorV (svT m gs cs)).length = 7 := hp.length_eq
  have hsz : ∀ x ∈ S8.sorV (svT m gs cs), x.2.size ≤ 40000 := fun x hx => by
    have hx := hp.mem_iff.1 hx
    simp only [svT, tabs, List.mem_append, List.mem_cons, List.not_mem_nil, or_false] at hx
    rcases hx with (rfl | rfl | rfl | rfl) | rfl | rfl | rfl
    all_goals simp [ByteArray.size, hdT_len, hhT_len, hmT_len, mxT_len, lgM, ltT, gtT, ctT, G10.jl_len, G10.p4, wi_len]
    all_goals omega
  have hpl := pl_le7 _ 40000 hsz (fun k hk => S8.h4_of hgo rfl hk) 7 (by omega)
  rw [hlen] at hpl
  obtain ⟨_, _, he⟩ := S8.err_of (svT m gs cs) _ hp (S8.sor_srt _) (by show 1 ≤ 7; omega) (by show 7 ≤ 32; omega)
  rw [hlen] at he
  have he0 := (he hgo (by omega)).1
  refine ⟨by unfold svE; rw [if_pos hck]; exact he0, ?_⟩
  have hs : svS m gs cs = ⟨(S8.txtV (S8.sorV (svT m gs cs))).toArray⟩ := by
    unfold svS; rw [if_pos hck]; unfold S8.btS; rw [if_pos he0]
  rw [hs]
  have hok := S8.go_ok _ hgo
  have hrl := S8.raw_len _ 7 hlen hok
  have hl : (S8.txtV (S8.sorV (svT m gs cs))).length = S8.plT (S8.sorV (svT m gs cs)) 7 := by
    rcases S8.ow_cases _ 7 hlen hgo with ⟨h1, _⟩ | ⟨h, h1, h2, h3, _⟩
    · rw [S8.txt_raw _ 7 hlen h1, hrl]
    · rw [S8.txt_put _ 7 _ hlen h3, S8.putA_len, hrl]
      rw [S8.nu_len, hrl]
      have h5 := S8.pl_le' (S8.sorV (svT m gs cs)) h1
      unfold S8.isH at h2
      rw [Bool.and_eq_true, decide_eq_true_eq] at h2
      omega
  simp [ByteArray.size, hl]
  omega
end Go.Proofs.YtpdfpbbamnhkfaaGreatDoor.F12
