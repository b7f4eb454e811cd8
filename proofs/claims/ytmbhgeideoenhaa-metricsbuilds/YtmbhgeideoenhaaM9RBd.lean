/-
  What the reference's Build answers.
-/
import Derived.Test.YtmbhgeideoenhaaM9RG
import Derived.Lib.MinMax
namespace Go.Proofs.Ytmbhgeideoenhaa
open Go.RowKit Go.Deep
set_option linter.unusedVariables false

theorem cat9 (a b : ByteArray) (n m : Nat) (ha : a.size = n) (hb : b.size = m) (h : n + m ≤ 100000) : ∃ P : ByteArray, (∀ w, (Op.stringOp .add a b).run Try.prog w = .ok (.string P) w) ∧ P.data.toList = a.data.toList ++ b.data.toList ∧ P.size = n + m :=
  ⟨a ++ b, fun w => run_string_add_sum w a b (by omega), by rw [ByteArray.data_append, Array.toList_append], by rw [ByteArray.size_append, ha, hb]⟩
theorem zr_let (n : Nat) (hn : n ≤ 1000) : ∃ Z : ByteArray, (∀ w, Calls Try.prog 36 #[.int .i64 (n : Int)] w fun e w' => e = .returned (.string Z) ∧ Below w.heap.size w w') ∧ Z.data.toList = zers n ∧ Z.size = n :=
  ⟨⟨(zers n).toArray⟩, fun w => zeros_any n n w rfl hn, rfl, by simp [ByteArray.size, zers]⟩
theorem tw_let (x : Int) (h0 : -4611686018427387904 ≤ x) (h1 : x ≤ 4611686018427387904) : ∃ T : ByteArray, (∀ w, Calls Try.prog 37 #[.int .i64 x] w fun e w' => e = .returned (.string T) ∧ Below w.heap.size w w') ∧ T.data.toList = [hiB x, loB x] ∧ T.size = 2 :=
  ⟨⟨#[hiB x, loB x]⟩, fun w => two_any x w h0 h1, rfl, rfl⟩
theorem bs_eq {P : ByteArray} {l : List UInt8} (h : P.data.toList = l) : P = ⟨l.toArray⟩ := by
  cases P with | mk d => cases d with | mk t => simp at h; rw [h]
theorem max0 {ad : List Int} (h : ∀ y ∈ ad, 0 ≤ y) (hn : 1 ≤ ad.length) : ad.foldl max 0 = maxV ad := by
  cases ad with
  | nil => simp at hn
  | cons x r =>
    have := h x (by simp)
    show r.foldl max (max 0 x) = r.foldl max x
    rw [show max 0 x = x by omega]
theorem flat_succ (ad be : List Int) (k : Nat) : flatB (ilv ad be (k + 1)) = (flatB (ilv ad be k) ++ [hiB (ad.getD k 0), loB (ad.getD k 0)]) ++ [hiB (be.getD k 0), loB (be.getD k 0)] := by
  rw [ilv_succ]
  unfold flatB
  rw [List.flatMap_append]
  simp
theorem fold_succ (ad : List Int) (k : Nat) (h : k < ad.length) : (ad.take (k + 1)).foldl max 0 = max ((ad.take k).foldl max 0) (ad.getD k 0) := by
  rw [List.take_succ_eq_append_getElem h, List.foldl_append, List.getD_eq_getElem?_getD, List.getElem?_eq_getElem h]
  rfl
abbrev ver8 : ByteArray := ⟨#[0, 1, 0, 0, 0, 1, 0, 0]⟩
set_option maxRecDepth 8000 in
set_option maxHeartbeats 8000000 in
theorem rbld_f (m : Mt) (aa ab : Option Addr) (na ca cb : Nat) (w : World) (hM : MIn w m aa na ab na) (hg : goodB m = true) (hlg : m.lg = false) :
    Calls Try.prog 17 #[.agg (mcs m (.slice aa na ca) (.slice ab na cb))] w fun e w' => ∃ g, e = .returned (.tuple #[.slice (some ⟨g, 0, none⟩) 4 4, .int .i64 0]) ∧ Blk w' g (tabC m na) 46 ∧ w.heap.size ≤ g ∧ Below w.heap.size w w' := by
  obtain ⟨g1, g2, g3, g4, g5, g6, g7⟩ := good_in hg
  have hna := hM.hna
  have hna1 : na ≤ 4096 := by omega
  have CG := hide (fun (v : World) (h : Below w.heap.size w v) => rgood_any m aa ab na ca na cb v ⟨hM.up, hM.hna, hM.hnb, hM.ma, hM.mb, hM.la.below h, hM.lb.below h, hM.xa, hM.xb⟩ (by omega) (by omega))
  rw [hg] at CG
  have s1 := g2 m.sc (by simp)
  have s2 := g2 m.de (by simp)
  have s3 := g2 m.ga (by simp)
  have s4 := g3 m.b0 (by simp)
  have s5 := g3 m.b1 (by simp)
  have s6 := g3 m.b2 (by simp)
  have s7 := g3 m.b3 (by simp)
  have s8 := max_in g6 (by omega)
  have HTC := hide (show tabC m na = #[.string headS, .string ⟨(hdT m).toArray⟩, .string hheaS, .string ⟨(hhT m na).toArray⟩, .string hmtxS, .string ⟨(hmT m.ad m.be na).toArray⟩, .string maxpS, .string ⟨(mxT na).toArray⟩] from rfl)
  have hD1 := hdT_eq m
  have hD2 := hhT_eq m na
  have hD4 := mxT_eq na
  have hD3 := hmT_eq m.ad m.be na
  rw [hlg] at hD1
  generalize hdT m = D1 at HTC hD1
  generalize hhT m na = D2 at HTC hD2
  generalize hmT m.ad m.be na = D3 at HTC hD3
  generalize mxT na = D4 at HTC hD4
  generalize tabC m na = TC at HTC ⊢
  obtain ⟨up, sc, de, ga, b0, b1, b2, b3, lg, ad, be⟩ := m
  simp only at g1 g4 g5 g6 g7 s1 s2 s3 s4 s5 s6 s7 s8 hD1 hD2 hD3 hna hlg
  subst hlg
  obtain ⟨M, hMx⟩ : ∃ M, maxV ad = M := ⟨_, rfl⟩
  rw [hMx] at s8 hD2
  obtain ⟨Z4, cZ4, lZ4, yZ4⟩ := zr_let 4 (by omega)
  obtain ⟨Z2, cZ2, lZ2, yZ2⟩ := zr_let 2 (by omega)
  obtain ⟨Z16, cZ16, lZ16, yZ16⟩ := zr_let 16 (by omega)
  obtain ⟨Z22, cZ22, lZ22, yZ22⟩ := zr_let 22 (by omega)
  obtain ⟨Z8, cZ8, lZ8, yZ8⟩ := zr_let 8 (by omega)
  obtain ⟨TU, cTU, lTU, yTU⟩ := tw_let up (by omega) (by omega)
  obtain ⟨T0, cT0, lT0, yT0⟩ := tw_let b0 (by omega) (by omega)
  obtain ⟨T1, cT1, lT1, yT1⟩ := tw_let b1 (by omega) (by omega)
  obtain ⟨T2, cT2, lT2, yT2⟩ := tw_let b2 (by omega) (by omega)
  obtain ⟨T3, cT3, lT3, yT3⟩ := tw_let b3 (by omega) (by omega)
  obtain ⟨TW, cTW, lTW, yTW⟩ := tw_let 2 (by omega) (by omega)
  obtain ⟨TL, cTL, lTL, yTL⟩ := tw_let 0 (by omega) (by omega)
  obtain ⟨TS, cTS, lTS, yTS⟩ := tw_let sc (by omega) (by omega)
  obtain ⟨TD, cTD, lTD, yTD⟩ := tw_let de (by omega) (by omega)
  obtain ⟨TG, cTG, lTG, yTG⟩ := tw_let ga (by omega) (by omega)
  obtain ⟨TM, cTM, lTM, yTM⟩ := tw_let M (by omega) (by omega)
  obtain ⟨TN, cTN, lTN, yTN⟩ := tw_let (na : Int) (by omega) (by omega)
  have CZ4 := hide cZ4
  have CZ2 := hide cZ2
  have CZ16 := hide cZ16
  have CZ22 := hide cZ22
  have CZ8 := hide cZ8
  have CTU := hide cTU
  have CT0 := hide cT0
  have CT1 := hide cT1
  have CT2 := hide cT2
  have CT3 := hide cT3
  have CTW := hide cTW
  have CTL := hide cTL
  have CTS := hide cTS
  have CTD := hide cTD
  have CTG := hide cTG
  have CTM := hide cTM
  have CTN := hide cTN
  obtain ⟨P1, rP1, eP1, zP1⟩ := cat9 ver8 Z4 8 4 (by first | decide | assumption) (by first | decide | assumption) (by omega)
  obtain ⟨P2, rP2, eP2, zP2⟩ := cat9 P1 magicS 12 4 (by first | decide | assumption) (by first | decide | assumption) (by omega)
  obtain ⟨P3, rP3, eP3, zP3⟩ := cat9 P2 Z2 16 2 (by first | decide | assumption) (by first | decide | assumption) (by omega)
  obtain ⟨P4, rP4, eP4, zP4⟩ := cat9 P3 TU 18 2 (by first | decide | assumption) (by first | decide | assumption) (by omega)
  obtain ⟨P5, rP5, eP5, zP5⟩ := cat9 P4 Z16 20 16 (by first | decide | assumption) (by first | decide | assumption) (by omega)
  obtain ⟨P6, rP6, eP6, zP6⟩ := cat9 P5 T0 36 2 (by first | decide | assumption) (by first | decide | assumption) (by omega)
  obtain ⟨P7, rP7, eP7, zP7⟩ := cat9 P6 T1 38 2 (by first | decide | assumption) (by first | decide | assumption) (by omega)
  obtain ⟨P8, rP8, eP8, zP8⟩ := cat9 P7 T2 40 2 (by first | decide | assumption) (by first | decide | assumption) (by omega)
  obtain ⟨P9, rP9, eP9, zP9⟩ := cat9 P8 T3 42 2 (by first | decide | assumption) (by first | decide | assumption) (by omega)
  obtain ⟨P10, rP10, eP10, zP10⟩ := cat9 P9 Z4 44 4 (by first | decide | assumption) (by first | decide | assumption) (by omega)
  obtain ⟨P11, rP11, eP11, zP11⟩ := cat9 P10 TW 48 2 (by first | decide | assumption) (by first | decide | assumption) (by omega)
  obtain ⟨P12, rP12, eP12, zP12⟩ := cat9 P11 TL 50 2 (by first | decide | assumption) (by first | decide | assumption) (by omega)
  obtain ⟨P13, rP13, eP13, zP13⟩ := cat9 P12 Z2 52 2 (by first | decide | assumption) (by first | decide | assumption) (by omega)
  obtain ⟨Q1, rQ1, eQ1, zQ1⟩ := cat9 verS TS 4 2 (by first | decide | assumption) (by first | decide | assumption) (by omega)
  obtain ⟨Q2, rQ2, eQ2, zQ2⟩ := cat9 Q1 TD 6 2 (by first | decide | assumption) (by first | decide | assumption) (by omega)
  obtain ⟨Q3, rQ3, eQ3, zQ3⟩ := cat9 Q2 TG 8 2 (by first | decide | assumption) (by first | decide | assumption) (by omega)
  obtain ⟨Q4, rQ4, eQ4, zQ4⟩ := cat9 Q3 TM 10 2 (by first | decide | assumption) (by first | decide | assumption) (by omega)
  obtain ⟨Q5, rQ5, eQ5, zQ5⟩ := cat9 Q4 Z22 12 22 (by first | decide | assumption) (by first | decide | assumption) (by omega)
  obtain ⟨Q6, rQ6, eQ6, zQ6⟩ := cat9 Q5 TN 34 2 (by first | decide | assumption) (by first | decide | assumption) (by omega)
  obtain ⟨R1, rR1, eR1, zR1⟩ := cat9 verS TN 4 2 (by first | decide | assumption) (by first | decide | assumption) (by omega)
  obtain ⟨R2, rR2, eR2, zR2⟩ := cat9 R1 Z8 6 8 (by first | decide | assumption) (by first | decide | assumption) (by omega)
  obtain ⟨R3, rR3, eR3, zR3⟩ := cat9 R2 TW 14 2 (by first | decide | assumption) (by first | decide | assumption) (by omega)
  obtain ⟨R4, rR4, eR4, zR4⟩ := cat9 R3 Z16 16 16 (by first | decide | assumption) (by first | decide | assumption) (by omega)
  have E1 : Hid (P13 = ⟨D1.toArray⟩) := hide (bs_eq (by rw [eP13, eP12, eP11, eP10, eP9, eP8, eP7, eP6, eP5, eP4, eP3, eP2, eP1, lZ4, lZ2, lTU, lZ16, lT0, lT1, lT2, lT3, lTW, lTL, hD1]; rfl))
  have E2 : Hid (Q6 = ⟨D2.toArray⟩) := hide (bs_eq (by rw [eQ6, eQ5, eQ4, eQ3, eQ2, eQ1, lTS, lTD, lTG, lTM, lZ22, lTN, hD2]; rfl))
  have E4 : Hid (R4 = ⟨D4.toArray⟩) := hide (bs_eq (by rw [eR4, eR3, eR2, eR1, lTN, lZ8, lTW, lZ16, hD4]; rfl))
  have HD3 := hide hD3
  have LT := hide two_any
  clear eP1 zP1 eP2 zP2 eP3 zP3 eP4 zP4 eP5 zP5 eP6 zP6 eP7 zP7 eP8 zP8 eP9 zP9 eP10 zP10 eP11 zP11 eP12 zP12 eP13 zP13 eQ1 zQ1 eQ2 zQ2 eQ3 zQ3 eQ4 zQ4 eQ5 zQ5 eQ6 zQ6 eR1 zR1 eR2 zR2 eR3 zR3 eR4 zR4 cZ4 lZ4 yZ4 cZ2 lZ2 yZ2 cZ16 lZ16 yZ16 cZ22 lZ22 yZ22 cZ8 lZ8 yZ8 cTU lTU yTU cT0 lT0 yT0 cT1 lT1 yT1 cT2 lT2 yT2 cT3 lT3 yT3 cTW lTW yTW cTL lTL yTL cTS lTS yTS cTD lTD yTD cTG lTG yTG cTM lTM yTM cTN lTN yTN hD1 hD2 hD3 hD4
  have HMM := hide hMx
  have HX := hide (And.intro g6 (And.intro g7 (And.intro g4 g5)))
  have HM := hide hM
  have hn5 : (na : Int) ≤ 5000 := by omega
  have HB := hide ((Below.refl w.heap.size w).alloc (Nat.le_refl _) (.cells #[.int .i64 up, .int .i64 sc, .int .i64 de, .int .i64 ga, .int .i64 b0, .int .i64 b1, .int .i64 b2, .int .i64 b3, .bool false, .slice aa na ca, .slice ab na cb] 28))
  have KV := hide (Blk.new w #[.int .i64 up, .int .i64 sc, .int .i64 de, .int .i64 ga, .int .i64 b0, .int .i64 b1, .int .i64 b2, .int .i64 b3, .bool false, .slice aa na ca, .slice ab na cb] 28)
  clear hg hMx g1 g2 g3 g4 g5 g6 g7 s1 s2 s3 s4 s5 s6 s7 s8 hM hna hna1
  simp only [mcs] at CG HX HM ⊢
  go_enter Try.func17, Try.ntmps17
  go_wp2_with fail
  generalize w.alloc (.cells #[.int .i64 up, .int .i64 sc, .int .i64 de, .int .i64 ga, .int .i64 b0, .int .i64 b1, .int .i64 b2, .int .i64 b3, .bool false, .slice aa na ca, .slice ab na cb] 28) = V at HB KV ⊢
  obtain ⟨x, hx⟩ : ∃ x, w.heap.size = x := ⟨_, rfl⟩
  have KV2 : Hid (Blk V x #[.int .i64 up, .int .i64 sc, .int .i64 de, .int .i64 ga, .int .i64 b0, .int .i64 b1, .int .i64 b2, .int .i64 b3, .bool false, .slice aa na ca, .slice ab na cb] 28) := hx ▸ KV
  rw [hx]
  have KC := hide (fun (u : World) (hu : Below V.heap.size V u) => KV2.out.below hu)
  have HV := hide (Below.refl V.heap.size V)
  clear KV KV2 hx
  refine (CG.out _ HB.out).mono ?_
  rintro e w1 ⟨rfl, hb⟩
  replace HV := hide (below_t5 HV.out hb)
  have kk := KC.out _ HV.out
  have c8 := kk.cell 8
  have xlt := kk.lt
  simp at c8
  have KSS := hide (show ∀ z, Below V.heap.size V z → (fun z : World => z.cell? ⟨x, 0, none⟩ = some (.int .i64 up) ∧ z.cell? ⟨x, 1, none⟩ = some (.int .i64 sc) ∧ z.cell? ⟨x, 2, none⟩ = some (.int .i64 de) ∧ z.cell? ⟨x, 3, none⟩ = some (.int .i64 ga) ∧ z.cell? ⟨x, 4, none⟩ = some (.int .i64 b0) ∧ z.cell? ⟨x, 5, none⟩ = some (.int .i64 b1) ∧ z.cell? ⟨x, 6, none⟩ = some (.int .i64 b2) ∧ z.cell? ⟨x, 7, none⟩ = some (.int .i64 b3) ∧ z.cell? ⟨x, 9, none⟩ = some (.slice aa na ca)) z from fun z hz => by
    have k0 := KC.out z hz
    exact ⟨k0.cell 0, k0.cell 1, k0.cell 2, k0.cell 3, k0.cell 4, k0.cell 5, k0.cell 6, k0.cell 7, k0.cell 9⟩)
  clear hb kk CG
  have HW := hide (Below.refl w1.heap.size w1)
  go_wp2_with fail
  go_region_held3 (fun z => z.cell? ⟨x, 0, none⟩ = some (.int .i64 up) ∧ z.cell? ⟨x, 1, none⟩ = some (.int .i64 sc) ∧ z.cell? ⟨x, 2, none⟩ = some (.int .i64 de) ∧ z.cell? ⟨x, 3, none⟩ = some (.int .i64 ga) ∧ z.cell? ⟨x, 4, none⟩ = some (.int .i64 b0) ∧ z.cell? ⟨x, 5, none⟩ = some (.int .i64 b1) ∧ z.cell? ⟨x, 6, none⟩ = some (.int .i64 b2) ∧ z.cell? ⟨x, 7, none⟩ = some (.int .i64 b3) ∧ z.cell? ⟨x, 9, none⟩ = some (.slice aa na ca)) (first | exact KSS.out _ (below_d HV.out (Below.refl _ _) rfl rfl rfl rfl)) ((first | (go_at_call 36; refine (CZ4.out _).mono ?_; rintro e w1 ⟨rfl, hb⟩; replace HV := hide (below_d HV.out hb rfl rfl rfl rfl); replace HW := hide (below_d HW.out hb rfl rfl rfl rfl); clear hb) | (go_at_call 36; refine (CZ2.out _).mono ?_; rintro e w1 ⟨rfl, hb⟩; replace HV := hide (below_d HV.out hb rfl rfl rfl rfl); replace HW := hide (below_d HW.out hb rfl rfl rfl rfl); clear hb) | (go_at_call 36; refine (CZ16.out _).mono ?_; rintro e w1 ⟨rfl, hb⟩; replace HV := hide (below_d HV.out hb rfl rfl rfl rfl); replace HW := hide (below_d HW.out hb rfl rfl rfl rfl); clear hb) | (go_at_call 37; refine (CTU.out _).mono ?_; rintro e w1 ⟨rfl, hb⟩; replace HV := hide (below_d HV.out hb rfl rfl rfl rfl); replace HW := hide (below_d HW.out hb rfl rfl rfl rfl); clear hb) | (go_at_call 37; refine (CT0.out _).mono ?_; rintro e w1 ⟨rfl, hb⟩; replace HV := hide (below_d HV.out hb rfl rfl rfl rfl); replace HW := hide (below_d HW.out hb rfl rfl rfl rfl); clear hb) | (go_at_call 37; refine (CT1.out _).mono ?_; rintro e w1 ⟨rfl, hb⟩; replace HV := hide (below_d HV.out hb rfl rfl rfl rfl); replace HW := hide (below_d HW.out hb rfl rfl rfl rfl); clear hb) | (go_at_call 37; refine (CT2.out _).mono ?_; rintro e w1 ⟨rfl, hb⟩; replace HV := hide (below_d HV.out hb rfl rfl rfl rfl); replace HW := hide (below_d HW.out hb rfl rfl rfl rfl); clear hb) | (go_at_call 37; refine (CT3.out _).mono ?_; rintro e w1 ⟨rfl, hb⟩; replace HV := hide (below_d HV.out hb rfl rfl rfl rfl); replace HW := hide (below_d HW.out hb rfl rfl rfl rfl); clear hb) | (go_at_call 37; refine (CTW.out _).mono ?_; rintro e w1 ⟨rfl, hb⟩; replace HV := hide (below_d HV.out hb rfl rfl rfl rfl); replace HW := hide (below_d HW.out hb rfl rfl rfl rfl); clear hb) | (go_at_call 37; refine (CTL.out _).mono ?_; rintro e w1 ⟨rfl, hb⟩; replace HV := hide (below_d HV.out hb rfl rfl rfl rfl); replace HW := hide (below_d HW.out hb rfl rfl rfl rfl); clear hb)))
  all_goals
    clear c8 xlt HW
    go_wp2_with fail
    go_loopw [6, 7, 8] (fun vm vb vi wr => ∃ (k : Nat) (X : Int), vi = .int .i64 k ∧ vm = .int .i64 X ∧ Hid (k ≤ na ∧ X = (ad.take k).foldl max 0 ∧ BRow wr V.heap.size vb (flatB (ilv ad be k)) ∧ Below V.heap.size V wr)) (fun _ _ vi _ => na - (intOf vi).toNat)
    case atStart => exact ⟨0, 0, rfl, rfl, hide ⟨by omega, rfl, BRow.nil _ _, HV.out⟩⟩
    case round =>
      clear HV
      obtain ⟨k, X, rfl, rfl, HVV⟩ := hrel
      obtain ⟨hk, hX, hbr, hv⟩ := HVV.out
      have hk0 : (0 : Int) ≤ (k : Int) := by omega
      have HV := hide hv
      have kk := KC.out _ hv
      have c9 := kk.cell 9
      have c10 := kk.cell 10
      have xlt := kk.lt
      simp at c9 c10
      clear HVV kk
      by_cases hlt : k < na
      case pos =>
        have hlt' : (k : Int) < (na : Int) := by omega
        have hl1 := HM.out.hna
        have hl2 := HM.out.hnb
        simp only at hl1 hl2
        have A := ad.getD k 0
        rcases HM.out.la with hz | ⟨p, po, rfl, hp, hcp⟩
        · simp only at hz; rw [hz] at hl1; simp at hl1; omega
        rcases HM.out.lb with hz | ⟨q, qo, rfl, hq, hcq⟩
        · simp only at hz; rw [hz] at hl2; simp at hl2; omega
        have hwr := below_t5 HB.out hv
        have KP := hide (fun (u : World) (hu : Below V.heap.size V u) => ((below_t5 HB.out hu).cell (p := ⟨p, po + k, none⟩) hp).trans (hcp k (by simp only; omega)))
        have KQ := hide (fun (u : World) (hu : Below V.heap.size V u) => ((below_t5 HB.out hu).cell (p := ⟨q, qo + k, none⟩) hq).trans (hcq k (by simp only; omega)))
        have hxx := HX.out.1 (ad.getD k 0) (by rw [List.getD_eq_getElem?_getD, List.getElem?_eq_getElem (by omega)]; exact List.getElem_mem _)
        have hyy := HX.out.2.1 (be.getD k 0) (by rw [List.getD_eq_getElem?_getD, List.getElem?_eq_getElem (by omega)]; exact List.getElem_mem _)
        have hbl : (flatB (ilv ad be k)).length ≤ 100000 := by rw [flatB_len, ilv_len]; omega
        have EF := hide (flat_succ ad be k)
        have EM := hide (fold_succ ad k (by omega))
        rw [← hX] at EM
        have hXb : Hid (True) := hide trivial
        simp only at KP KQ
        generalize ad.getD k 0 = Y1 at KP hxx EF EM
        generalize be.getD k 0 = Y2 at KQ hyy EF
        obtain ⟨T1, cT1, lT1, yT1⟩ := tw_let Y1 (by omega) (by omega)
        obtain ⟨T2, cT2, lT2, yT2⟩ := tw_let Y2 (by omega) (by omega)
        have a1 := KP.out _ hv
        have HBR := hide hbr
        have CT1 := hide cT1
        have CT2 := hide cT2
        clear hX hbr hv hl1 hl2 hcp hcq hwr cT1 cT2 hxx hyy A hp hq
        go_wp2_with fail
        refine (CT1.out _).mono ?_
        rintro e w2 ⟨rfl, hb⟩
        obtain ⟨v2, w3, hr, hbr3, hkb⟩ := app_s3 T1 (HBR.out.later hb) (Nat.le_trans HV.out.size hb.size) (by omega)
        have hv2 := below_t5 HV.out hb
        have hv3 := hv2.trans hkb.below
        have kk := KC.out _ hv3
        have c9 := kk.cell 9
        have c10 := kk.cell 10
        have xlt := kk.lt
        simp at c9 c10
        have a2 := KQ.out _ hv3
        have HR := hide hr
        have HBR3 := hide hbr3
        have HV3 := hide hv3
        clear kk hr hbr3 hkb hv2 hv3 hb
        go_wp2_with (at_builtin; refine Lib.wpList_append_run _ rfl _ _ _ _ rfl _ _ rfl rfl _ _ HR.out ?_)
        refine (CT2.out _).mono ?_
        rintro e w4 ⟨rfl, hb⟩
        obtain ⟨v4, w5, hr, hbr5, hkb⟩ := app_s3 T2 (HBR3.out.later hb) (Nat.le_trans HV3.out.size hb.size) (by rw [List.length_append, lT1]; simp; omega)
        have hv5 := (below_t5 HV3.out hb).trans hkb.below
        have HR := hide hr
        have HBR5 := hide hbr5
        have HV5 := hide hv5
        rw [lT1, lT2, ← EF.out] at HBR5
        clear hr hbr5 hkb hv5 hb
        go_wp2_with (at_builtin; refine Lib.wpList_append_run _ rfl _ _ _ _ rfl _ _ rfl rfl _ _ HR.out ?_)
        go_roundw
        case rel => exact ⟨k + 1, _, by go_num, rfl, hide ⟨by omega, EM.out.symm, HBR5.out, HV5.out⟩⟩
        case measure => simp [intOf]; omega
      have hlt' : ¬ (k : Int) < (na : Int) := by omega
      have hkn : na = k := by omega
      subst hkn
      have hXM : X = M := by
        have h1 := HM.out.hna
        simp only at h1
        rw [hX, List.take_of_length_le (by omega), max0 (fun y hy => (HX.out.1 y hy).1) (by have := HX.out.2.2.1; omega), HMM.out]
      subst hXM
      have HW := hide (Below.refl wr.heap.size wr)
      have HBR := hide hbr
      clear hX hbr hv hlt
      go_wp2_with fail
      go_region_held3 (fun z => z.cell? ⟨x, 0, none⟩ = some (.int .i64 up) ∧ z.cell? ⟨x, 1, none⟩ = some (.int .i64 sc) ∧ z.cell? ⟨x, 2, none⟩ = some (.int .i64 de) ∧ z.cell? ⟨x, 3, none⟩ = some (.int .i64 ga) ∧ z.cell? ⟨x, 4, none⟩ = some (.int .i64 b0) ∧ z.cell? ⟨x, 5, none⟩ = some (.int .i64 b1) ∧ z.cell? ⟨x, 6, none⟩ = some (.int .i64 b2) ∧ z.cell? ⟨x, 7, none⟩ = some (.int .i64 b3) ∧ z.cell? ⟨x, 9, none⟩ = some (.slice aa na ca)) (first | exact KSS.out _ (below_d HV.out (Below.refl _ _) rfl rfl rfl rfl)) ((first | (go_at_call 36; refine (CZ22.out _).mono ?_; rintro e w1 ⟨rfl, hb⟩; replace HV := hide (below_d HV.out hb rfl rfl rfl rfl); replace HW := hide (below_d HW.out hb rfl rfl rfl rfl); clear hb) | (go_at_call 37; refine (CTS.out _).mono ?_; rintro e w1 ⟨rfl, hb⟩; replace HV := hide (below_d HV.out hb rfl rfl rfl rfl); replace HW := hide (below_d HW.out hb rfl rfl rfl rfl); clear hb) | (go_at_call 37; refine (CTD.out _).mono ?_; rintro e w1 ⟨rfl, hb⟩; replace HV := hide (below_d HV.out hb rfl rfl rfl rfl); replace HW := hide (below_d HW.out hb rfl rfl rfl rfl); clear hb) | (go_at_call 37; refine (CTG.out _).mono ?_; rintro e w1 ⟨rfl, hb⟩; replace HV := hide (below_d HV.out hb rfl rfl rfl rfl); replace HW := hide (below_d HW.out hb rfl rfl rfl rfl); clear hb) | (go_at_call 37; refine (CTM.out _).mono ?_; rintro e w1 ⟨rfl, hb⟩; replace HV := hide (below_d HV.out hb rfl rfl rfl rfl); replace HW := hide (below_d HW.out hb rfl rfl rfl rfl); clear hb) | (go_at_call 37; refine (CTN.out _).mono ?_; rintro e w1 ⟨rfl, hb⟩; replace HV := hide (below_d HV.out hb rfl rfl rfl rfl); replace HW := hide (below_d HW.out hb rfl rfl rfl rfl); clear hb)))
      all_goals
        have kk := KC.out _ HV.out
        have c9 := kk.cell 9
        have xlt := kk.lt
        simp at c9
        clear kk
        go_wp2_with fail
        refine (CTN.out _).mono ?_
        rintro e u0' ⟨rfl, hb⟩
        replace HV := hide (below_t5 HV.out hb)
        replace HW := hide (below_t5 HW.out hb)
        clear hb
        go_wp2_with fail
        refine (CZ8.out _).mono ?_
        rintro e u1' ⟨rfl, hb⟩
        replace HV := hide (below_t5 HV.out hb)
        replace HW := hide (below_t5 HW.out hb)
        clear hb
        go_wp2_with fail
        refine (CTW.out _).mono ?_
        rintro e u2' ⟨rfl, hb⟩
        replace HV := hide (below_t5 HV.out hb)
        replace HW := hide (below_t5 HW.out hb)
        clear hb
        go_wp2_with fail
        refine (CZ16.out _).mono ?_
        rintro e u3' ⟨rfl, hb⟩
        replace HV := hide (below_t5 HV.out hb)
        replace HW := hide (below_t5 HW.out hb)
        clear hb
        have hcv := (HBR.out.later HW.out).text
        rw [← HD3.out] at hcv
        have hal := HV.out.alloc HV.out.size (.cells TC 46)
        have kt := Blk.new u3' TC 46
        rw [HTC.out] at hal kt
        rw [← E1.out, ← E2.out, ← E4.out] at hal kt
        have HAL := hide (below_t5 HB.out hal)
        have HKT := hide kt
        have HSZ : Hid (w.heap.size ≤ u3'.heap.size) := hide (Nat.le_trans HB.out.size HV.out.size)
        clear hal kt c9 xlt
        go_wp2_with fail
        go_ret2
        exact ⟨u3'.heap.size, rfl, by rw [HTC.out, ← E1.out, ← E2.out, ← E4.out]; exact HKT.out, HSZ.out, HAL.out⟩
end Go.Proofs.Ytmbhgeideoenhaa
