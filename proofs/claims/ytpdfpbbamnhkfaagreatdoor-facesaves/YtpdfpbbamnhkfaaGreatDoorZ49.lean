/-
  Joined: F12Rf.
-/
import Derived.Test.YtpdfpbbamnhkfaaGreatDoorZ25
import Derived.Test.YtpdfpbbamnhkfaaGreatDoorZ27
import Derived.Test.YtpdfpbbamnhkfaaGreatDoorZ36
import Derived.Test.YtpdfpbbamnhkfaaGreatDoorZ37
import Derived.Test.YtpdfpbbamnhkfaaGreatDoorZ46
namespace Go.Proofs.YtpdfpbbamnhkfaaGreatDoor.F12
open Go.RowKit Go.Deep
set_option linter.unusedVariables false
set_option linter.unusedSimpArgs false
set_option maxRecDepth 8000 in
set_option maxHeartbeats 8000000 in
theorem rsave_any (m : Mt) (aa ab ga ca : Option Addr) (na nb ng nc ka kb kg kc : Nat) (gs : List ByteArray) (cs : List C11.Ch) (w : World) (hM : MIn w m aa na ab nb) (hng : gs.length = ng) (hnc : cs.length = nc) (hma : na ≤ 1000000) (hmb : nb ≤ 1000000) (hmg : ng ≤ 1000000) (hmc : nc ≤ 1000000) (hz : ∀ g ∈ gs, g.size ≤ 1000000) (hjg : (G10.jg gs).length ≤ 1048576) (hG : G10.SLst w ga gs) (hC : C11.CLst w ca cs) :
    Calls Tryz.prog 18 #[.agg (fcs m (.slice aa na ka) (.slice ab nb kb) (.slice ga ng kg) (.slice ca nc kc))] w fun e w' => e = .returned (.tuple #[.string (svS m gs cs), .int .i64 (svE m gs cs)]) ∧ Below w.heap.size w w' := by
  have hna := hM.hna
  have hnb := hM.hnb
  have HMB := hide (fun (u : World) (hu : Below w.heap.size w u) => (⟨hM.up, hM.hna, hM.hnb, hM.ma, hM.mb, hM.la.below hu, hM.lb.below hu, hM.xa, hM.xb⟩ : MIn u m aa na ab nb))
  have bw := (Below.refl w.heap.size w).alloc (Nat.le_refl _) (.cells (fcs m (.slice aa na ka) (.slice ab nb kb) (.slice ga ng kg) (.slice ca nc kc)) 29)
  have k1 := Blk.new w (fcs m (.slice aa na ka) (.slice ab nb kb) (.slice ga ng kg) (.slice ca nc kc)) 29
  have CK := hide (rcheck_any m aa ab ga ca na nb ng nc ka kb kg kc gs cs _ (HMB.out _ bw) hng hnc hma hmb hmg hmc hz (hG.below bw) (hC.below bw))
  have CJ := hide (fun (u : World) (hu : Below w.heap.size w u) => G10.rjoin_any ga gs ng kg u hng hmg hjg (hG.below hu))
  have CB := hide (fun (u : World) (hu : Below w.heap.size w u) (hn : nb = na) (hg : goodB m = true) => rbld_t (lgM m) aa ab na ka kb u (by have h := HMB.out u hu; subst hn; exact ⟨h.up, h.hna, h.hnb, h.ma, h.mb, h.la, h.lb, h.xa, h.xb⟩) (good_lg hg) rfl)
  have CC := hide (fun (u : World) (hu : Below w.heap.size w u) (h : C11.gooB cs 4096 = true) => C11.rbuild_wide ca cs nc kc u hnc (hC.below hu) h)
  have HIN := hide (fun h : ckV m gs cs = 0 => ck_in h)
  have HS := hide (show svS m gs cs = if ckV m gs cs = 0 then S8.btS (svT m gs cs) else ⟨#[]⟩ from rfl)
  have HE := hide (show svE m gs cs = if ckV m gs cs = 0 then S8.bErr (svT m gs cs) else ckV m gs cs from rfl)
  generalize svS m gs cs = RS at HS ⊢
  generalize svE m gs cs = RE at HE ⊢
  obtain ⟨zk, hck⟩ : ∃ c, ckV m gs cs = c := ⟨_, rfl⟩
  rw [hck] at CK HS HE HIN
  have HB1 := hide bw
  have HK1 := hide k1
  have HNN := hide (And.intro hna (And.intro hnb (And.intro hng hnc)))
  have HJG := hide hjg
  obtain ⟨up, sc, de, gap, b0, b1, b2, b3, lg, ad, be⟩ := m
  clear hna hnb hng hnc hz hM hG hC bw k1 hck hjg
  simp only [mcs, fcs, lgM] at CK CB HB1 HK1 HIN HNN ⊢
  go_enter Tryz.func18, Tryz.ntmps18
  go_wp2_with fail
  refine CK.out.mono ?_
  rintro e w1 ⟨rfl, h1⟩
  have hk := HK1.out.below h1
  have e11 := hk.cell 11
  simp at e11
  have xlt := hk.lt
  have HB2 := hide (below_t5 HB1.out h1)
  have HK2 := hide hk
  clear h1 hk HB1 HK1
  by_cases hc0 : zk = 0
  case neg =>
    have S0 := HS.out
    have E0 := HE.out
    rw [if_neg hc0] at S0 E0
    subst S0 E0
    have hc1 : (RE == 0) = false := by simpa using hc0
    go_wp2_with fail
    go_ret2
    exact ⟨rfl, HB2.out⟩
  subst hc0
  have S0 := HS.out
  have E0 := HE.out
  rw [if_pos rfl] at S0 E0
  obtain ⟨hg, hl, h4, hgc⟩ := HIN.out rfl
  have hnn := HNN.out
  try simp only at hl
  try simp only at hnn
  have CJ1 := hide (fun (u : World) (hu : Below w.heap.size w u) => CJ.out u hu)
  unfold G10.JnR at CJ1
  simp only [h4.1, h4.2, and_self, ↓reduceIte] at CJ1
  have hnb : nb = na := by have := (good_in hg).2.2.2.2.1; (try simp only at this); omega
  have CB1 := hide (fun (u : World) (hu : Below w.heap.size w u) => CB.out u hu hnb hg)
  have CC1 := hide (fun (u : World) (hu : Below w.heap.size w u) => CC.out u hu (goo_up hgc h4.2))
  have HH := hide (And.intro hg hgc)
  have HSE := hide (And.intro S0 E0)
  have HL4 := hide h4
  subst hnb
  clear S0 E0 hg hl hgc hnn h4 CB CC CJ CK HS HE HIN
  generalize hLT : (⟨(G10.jl 0 gs ++ G10.p4 (((G10.jg gs).length : Nat) : Int)).toArray⟩ : ByteArray) = LT at CJ1
  generalize hGT : (⟨(G10.jg gs).toArray⟩ : ByteArray) = GT at CJ1
  generalize hCT : (⟨(C11.wiT cs).toArray⟩ : ByteArray) = CT at CC1
  have HLT := hide hLT
  have HGT := hide hGT
  have HCT := hide hCT
  clear hLT hGT hCT
  clear e11 xlt
  have hk := HK2.out
  have e0 := hk.cell 0
  have e1 := hk.cell 1
  have e2 := hk.cell 2
  have e3 := hk.cell 3
  have e4 := hk.cell 4
  have e5 := hk.cell 5
  have e6 := hk.cell 6
  have e7 := hk.cell 7
  have e8 := hk.cell 8
  have e9 := hk.cell 9
  have e10 := hk.cell 10
  simp at e0 e1 e2 e3 e4 e5 e6 e7 e8 e9 e10
  have xlt := hk.lt
  have bX := (Below.refl w1.heap.size w1).alloc (Nat.le_refl _) (.cells #[.int .i64 up, .int .i64 sc, .int .i64 de, .int .i64 gap, .int .i64 b0, .int .i64 b1, .int .i64 b2, .int .i64 b3, .bool true, .slice aa nb ka, .slice ab nb kb] 25)
  have hb3 := below_t5 HB2.out bX
  have hk3 := HK2.out.below bX
  have HK3 := hide hk3
  have HB3 := hide hb3
  have CB2 := hide (CB1.out _ hb3)
  clear bX hk3 hb3 HB2 HK2 CB1 hk
  go_wp2_with fail
  refine CB2.out.mono ?_
  rintro e w3 ⟨g, rfl, hT, hgg, h3⟩
  have hk := HK3.out.below h3
  have e11 := hk.cell 11
  simp at e11
  have xlt3 := hk.lt
  have hb4 := below_t5 HB3.out h3
  have hrow := tab_row (B := w.heap.size) (m := lgM ⟨up, sc, de, gap, b0, b1, b2, b3, lg, ad, be⟩) HNN.out.1 hT (Nat.le_trans HB3.out.size hgg)
  have HROW := hide hrow
  have HB4 := hide hb4
  have HK4 := hide hk
  have CJ2 := hide (CJ1.out w3 hb4)
  clear hT hgg h3 hk hb4 hrow HB3 HK3 CB2 CJ1 xlt e0 e1 e2 e3 e4 e5 e6 e7 e8 e9 e10
  go_wp2_with fail
  refine CJ2.out.mono ?_
  rintro e w5 ⟨rfl, h5⟩
  have hk := HK4.out.below h5
  have e12 := hk.cell 12
  simp at e12
  have xlt5 := hk.lt
  have hb5 := below_t5 HB4.out h5
  have hrow := HROW.out.later h5
  have HROW5 := hide hrow
  have HB5 := hide hb5
  have CC2 := hide (CC1.out w5 hb5)
  clear h5 hk hb5 hrow HB4 HK4 HROW CJ2 CC1 e11 xlt3
  go_wp2_with fail
  refine CC2.out.mono ?_
  rintro e w4 ⟨rfl, h4⟩
  have hb5 := below_t5 HB5.out h4
  obtain ⟨g2, cap, w6, hr, hrow6, hb6⟩ := app_tab3 (locaS, LT) (glyfS, GT) (cmapS, CT) (HROW5.out.later h4) hb5.size (show (4 : Nat) ≤ 1000 by omega) w4.heap.size rfl
  have hb7 := hb5.trans hb6
  have HR := hide hr
  have e7 : tabs (lgM ⟨up, sc, de, gap, b0, b1, b2, b3, lg, ad, be⟩) ++ [(locaS, LT), (glyfS, GT), (cmapS, CT)] = svT ⟨up, sc, de, gap, b0, b1, b2, b3, lg, ad, be⟩ gs cs := by unfold svT ltT gtT ctT; rw [HLT.out, HGT.out, HCT.out]
  rw [e7] at hrow6
  have CS := hide (S8.rbuild_any (some ⟨g2, 0, none⟩) _ 7 cap w6 rfl (by omega) (sv_size HJG.out HL4.out.2 (C11.gooB_iff.1 HH.out.2).1 (by have := (good_in HH.out.1).2.2.2.1; omega)) (row_tlst hrow6 rfl))
  unfold S8.BuR at CS
  rw [← HSE.out.1, ← HSE.out.2] at CS
  have HB7 := hide hb7
  clear h4 hb5 hr hrow6 hb6 hb7 e7 HROW5 HB5 CC2 e12 xlt5
  go_wp2_with (at_builtin; refine Lib.wpList_append_run _ rfl _ _ _ _ rfl _ _ rfl rfl _ _ HR.out ?_)
  refine CS.out.mono ?_
  rintro e w7 ⟨rfl, h6⟩
  have HB8 := hide (below_t5 HB7.out h6)
  clear h6
  go_wp2_with fail
  go_ret2
  exact ⟨rfl, HB8.out⟩
end Go.Proofs.YtpdfpbbamnhkfaaGreatDoor.F12
