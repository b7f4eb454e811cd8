/-
  The law MetricsShort, walked.
-/
import Derived.Test.YtkdnoemakclmdaaM9Sr
namespace Go.Proofs.Ytkdnoemakclmdaa
open Go.RowKit Go.Deep
set_option linter.unusedVariables false

section
variable {P : Program} {md : Region.Mode} {ops : Array Oper} {Q : Exit → Act → World → Prop} {S : World → Prop}
theorem takeW {i d : Nat} {oi : Oper} {v : Value} {fuel : Nat} {listed : Array Bool} {a : Act} {w : World} (hi : ops[i]? = some oi) (hd : oi.dst = some d)
    (hs : Region.noSelect ops = true) (hf : Region.free md ops listed i = true) (hr : (Region.ready md ops listed).contains i = true)
    (hQ : ∀ c a w, Q (.panic c) (a.put (some d) v) w → Q (.panic c) a w) (hw : Region.wanted oi (yielded ops a.tmps) = true) (hy : ∀ w, S w → (execOp a.eval oi).run P w = .ok (.value v) w) (hS : S w)
    (h : wpAnyH P md ops Q S fuel (listed.setIfInBounds i true) (a.put (some d) v) w) : wpAnyH P md ops Q S (fuel + 1) listed a w :=
  wpAnyH_take hi hs hf hr (by rw [hd]; exact hQ) (Or.inl ⟨hw, hy⟩) hS (by rw [hd]; exact h)
theorem takeN {i d : Nat} {oi : Oper} {fuel : Nat} {listed : Array Bool} {a : Act} {w : World} (hi : ops[i]? = some oi) (hd : oi.dst = some d)
    (hs : Region.noSelect ops = true) (hf : Region.free md ops listed i = true) (hr : (Region.ready md ops listed).contains i = true)
    (hQ : ∀ c a w, Q (.panic c) (a.put (some d) undef) w → Q (.panic c) a w) (hw : Region.wanted oi (yielded ops a.tmps) = false) (hS : S w)
    (h : wpAnyH P md ops Q S fuel (listed.setIfInBounds i true) (a.put (some d) undef) w) : wpAnyH P md ops Q S (fuel + 1) listed a w :=
  wpAnyH_take hi hs hf hr (by rw [hd]; exact hQ) (Or.inr ⟨hw, rfl⟩) hS (by rw [hd]; exact h)
end
theorem ext_l (s : ByteArray) (a b : Nat) : (s.extract a b).data.toList = (s.data.toList.drop a).take (b - a) := by
  rw [ByteArray.data_extract]
  simp [List.extract]
set_option maxRecDepth 8000 in
set_option maxHeartbeats 8000000 in
theorem short_in (m : Mt) (aa ab : Option Addr) (nb ca cb h : Nat) (w : World) (hM : MIn w m aa nb ab nb) (hl : lrB nb nb = false) (hgd : goodB m = true) (h0 : 1 ≤ h) (h1 : h ≤ nb) :
    Calls Try.prog 3 #[.agg (mcs m (.slice aa nb ca) (.slice ab nb cb)), .int .i64 (h : Int)] w fun e w' => e = .returned (.bool true) ∧ Below w.heap.size w w' := by
  have CL := hide (fun w => large_any m aa ab nb ca nb cb w)
  have CWK := hide wakes9_any
  rw [hl] at CL
  have hna : nb ≤ 5000 := by unfold lrB at hl; simp at hl; omega
  have CC := hide (fun (v : World) (h : Below w.heap.size w v) => cp_any m aa ab nb ca nb cb v hM.hna hM.hnb (by omega) (by omega) (hM.la.below h) (hM.lb.below h))
  obtain ⟨g1, g2, g3, g4, g5, g6, g7⟩ := good_in hgd
  have CB := hide (fun (p q cp cq : Nat) (v : World) (h1 : Lst v (some ⟨p, 0, none⟩) m.ad) (h2 : Lst v (some ⟨q, 0, none⟩) m.be) => bld_any m (some ⟨p, 0, none⟩) (some ⟨q, 0, none⟩) nb cp cq v hM.hna hM.hnb h1 h2 hgd)
  have hn0 : (nb : Int) ≤ 5000 := by omega
  have hn1 : (0 : Int) ≤ (nb : Int) := by omega
  have hz1 : ¬ (h : Int) < 1 := by omega
  have hz2 : ¬ (nb : Int) < (h : Int) := by omega
  have hz3 : (h : Int) ≤ (nb : Int) := by omega
  have hz4 : (0 : Int) ≤ (h : Int) := by omega
  obtain ⟨S1, hS1, hs1⟩ : ∃ S : ByteArray, S = ⟨(hhT m nb).toArray⟩ ∧ S.size = 36 := ⟨_, rfl, by simp [ByteArray.size, hhT_len]⟩
  obtain ⟨S2, hS2, hs2⟩ : ∃ S : ByteArray, S = ⟨(hmT m.ad m.be nb).toArray⟩ ∧ S.size = 4 * nb := ⟨_, rfl, by simp [ByteArray.size, hmT_len]⟩
  obtain ⟨S0, hS0⟩ : ∃ S : ByteArray, S = ⟨(hdT m).toArray⟩ := ⟨_, rfl⟩
  obtain ⟨S3, hS3⟩ : ∃ S : ByteArray, S = ⟨(mxT nb).toArray⟩ := ⟨_, rfl⟩
  have hs2' : (S2.size : Int) = 4 * (nb : Int) := by omega
  have hs1' : (S1.size : Int) = 36 := by omega
  obtain ⟨TC, hTC, ht0, ht1, ht3, ht5, ht6, ht7⟩ : ∃ TC : Array Value, TC = tabC m nb ∧ TC[0]? = some (.string headS) ∧ TC[1]? = some (.string S0) ∧ TC[3]? = some (.string S1) ∧ TC[5]? = some (.string S2) ∧ TC[6]? = some (.string maxpS) ∧ TC[7]? = some (.string S3) := ⟨_, rfl, rfl, by rw [hS0]; rfl, by rw [hS1]; rfl, by rw [hS2]; rfl, rfl, by rw [hS3]; rfl⟩
  rw [← hTC] at CB
  have HS := hide (And.intro hS0 (And.intro hS1 (And.intro hS2 hS3)))
  have HM := hide hM
  have HGD := hide hgd
  have HZ := hide hs2
  have HH := hide (And.intro h0 h1)
  clear hTC hS0 hS1 hS2 hS3 hs1 hs2
  obtain ⟨up, sc, de, ga, b0, b1, b2, b3, lg, ad, be⟩ := m
  have HB := hide ((Below.refl w.heap.size w).alloc (Nat.le_refl _) (.cells #[.int .i64 up, .int .i64 sc, .int .i64 de, .int .i64 ga, .int .i64 b0, .int .i64 b1, .int .i64 b2, .int .i64 b3, .bool lg, .slice aa nb ca, .slice ab nb cb] 25))
  have KV := hide (Blk.new w #[.int .i64 up, .int .i64 sc, .int .i64 de, .int .i64 ga, .int .i64 b0, .int .i64 b1, .int .i64 b2, .int .i64 b3, .bool lg, .slice aa nb ca, .slice ab nb cb] 25)
  clear hM hl hgd g1 g2 g3 g4 g5 g6 g7 hna h0 h1
  simp only [mcs] at CL CC CB HS HM ⊢
  go_enter Try.func3, Try.ntmps3
  go_wp2_with fail
  generalize w.alloc (.cells #[.int .i64 up, .int .i64 sc, .int .i64 de, .int .i64 ga, .int .i64 b0, .int .i64 b1, .int .i64 b2, .int .i64 b3, .bool lg, .slice aa nb ca, .slice ab nb cb] 25) = V at HB KV ⊢
  obtain ⟨x, hx⟩ : ∃ x, w.heap.size = x := ⟨_, rfl⟩
  have KV2 : Hid (Blk V x #[.int .i64 up, .int .i64 sc, .int .i64 de, .int .i64 ga, .int .i64 b0, .int .i64 b1, .int .i64 b2, .int .i64 b3, .bool lg, .slice aa nb ca, .slice ab nb cb] 25) := hx ▸ KV
  rw [hx]
  have KC := hide (fun (u : World) (hu : Below V.heap.size V u) => KV2.out.below hu)
  have HV := hide (Below.refl V.heap.size V)
  have kk := KC.out _ HV.out
  clear KV KV2 hx
  have c0 := kk.cell 0
  have c1 := kk.cell 1
  have c2 := kk.cell 2
  have c3 := kk.cell 3
  have c4 := kk.cell 4
  have c5 := kk.cell 5
  have c6 := kk.cell 6
  have c7 := kk.cell 7
  have c8 := kk.cell 8
  have c9 := kk.cell 9
  have c10 := kk.cell 10
  simp at c0 c1 c2 c3 c4 c5 c6 c7 c8 c9 c10
  have xlt := kk.lt
  clear kk
  refine (CL.out _).mono ?_
  rintro e w1 ⟨rfl, hb⟩
  replace HV := hide (below_t5 HV.out hb)
  have kk := KC.out _ HV.out
  clear hb
  clear c0 c1 c2 c3 c4 c5 c6 c7 c8 c9 c10 xlt
  have c0 := kk.cell 0
  have c1 := kk.cell 1
  have c2 := kk.cell 2
  have c3 := kk.cell 3
  have c4 := kk.cell 4
  have c5 := kk.cell 5
  have c6 := kk.cell 6
  have c7 := kk.cell 7
  have c8 := kk.cell 8
  have c9 := kk.cell 9
  have c10 := kk.cell 10
  simp at c0 c1 c2 c3 c4 c5 c6 c7 c8 c9 c10
  have xlt := kk.lt
  clear kk
  go_wp2_with fail
  refine (CC.out _ (below_t5 HB.out HV.out)).mono ?_
  rintro e w2 ⟨p0, q0, cp0, cq0, rfl, hl1, hl2, hb⟩
  have C2 := hide (CB.out p0 q0 cp0 cq0 w2 hl1 hl2)
  clear hl1 hl2
  replace HV := hide (below_t5 HV.out hb)
  have kk := KC.out _ HV.out
  clear hb
  clear c0 c1 c2 c3 c4 c5 c6 c7 c8 c9 c10 xlt
  have c0 := kk.cell 0
  have c1 := kk.cell 1
  have c2 := kk.cell 2
  have c3 := kk.cell 3
  have c4 := kk.cell 4
  have c5 := kk.cell 5
  have c6 := kk.cell 6
  have c7 := kk.cell 7
  have c8 := kk.cell 8
  have c9 := kk.cell 9
  have c10 := kk.cell 10
  simp at c0 c1 c2 c3 c4 c5 c6 c7 c8 c9 c10
  have xlt := kk.lt
  clear kk
  go_wp2_with fail
  refine C2.out.mono ?_
  rintro e w3 ⟨g, rfl, hkg, _, hb⟩
  have e3 := hkg.cell 3
  have e5 := hkg.cell 5
  rw [ht3] at e3
  rw [ht5] at e5
  have glt := hkg.lt
  have HG := hide hkg
  clear C2 hkg
  replace HV := hide (below_t5 HV.out hb)
  have kk := KC.out _ HV.out
  clear hb
  clear c0 c1 c2 c3 c4 c5 c6 c7 c8 c9 c10 xlt
  have c0 := kk.cell 0
  have c1 := kk.cell 1
  have c2 := kk.cell 2
  have c3 := kk.cell 3
  have c4 := kk.cell 4
  have c5 := kk.cell 5
  have c6 := kk.cell 6
  have c7 := kk.cell 7
  have c8 := kk.cell 8
  have c9 := kk.cell 9
  have c10 := kk.cell 10
  simp at c0 c1 c2 c3 c4 c5 c6 c7 c8 c9 c10
  have xlt := kk.lt
  clear kk
  have hm4 : IntKind.i64.wrap (4 * (nb : Int)) = 4 * (nb : Int) := by rw [IntKind.wrap_i64]; omega
  have hm5 : IntKind.i64.wrap (4 * (h : Int)) = 4 * (h : Int) := by rw [IntKind.wrap_i64]; omega
  have hcv := Lib.run_convert_string_bytes (P := Try.prog) w3 9 35 5 (S2.extract 0 (4 * h)) (u := .string) Try.underlying9 Try.underlying35 Try.underlying5
  have hxs : (S2.extract 0 (4 * h)).size = 4 * h := by rw [ByteArray.size_extract, HZ.out]; omega
  have hmk := bytes_mk w3 (S2.extract 0 (4 * h)) (by omega)
  have hbw := bytes_kb w3 (S2.extract 0 (4 * h))
  have HMK := hide hmk
  have HBW := hide hbw
  clear hmk hbw
  rw [hxs] at hcv HMK
  generalize grownCap w3 (4 * h) 0 5 = GC at hcv HMK
  generalize Lib.bytesWorld w3 5 (S2.extract 0 (4 * h)) = W2 at hcv HMK HBW
  generalize hgg : w3.heap.size = gb at hcv HMK HBW
  have HGG := hide hgg
  clear hgg
  go_wp2_with fail
  generalize (decide ((h : Int) < 1) || decide (nb < h)) = z58
  try generalize decide ((h : Int) < 1) = z57
  try generalize decide (nb < h) = z56
  clear c0 c1 c2 c3 c4 c5 c6 c7 c8 c9 c10 xlt e3 e5 glt hcv
  go_loopw [8, 9] (fun vb vi wr => ∃ k : Nat, vi = .int .i64 ((h + k : Nat) : Int) ∧ Hid (h + k ≤ nb ∧ XRow wr gb vb (shB S2.data.toList h k) ∧ Below gb w3 wr)) (fun _ vi _ => nb - (intOf vi).toNat)
  case atStart =>
    refine ⟨0, rfl, hide ⟨HH.out.2, Or.inr ?_, HBW.out⟩⟩
    have := HMK.out
    rw [ext_l, List.drop_zero, Nat.sub_zero] at this
    exact this
  case round =>
    obtain ⟨k, rfl, HVV⟩ := hrel
    obtain ⟨hk, hX, hB⟩ := HVV.out
    have hlen : (shB S2.data.toList h k).length = 4 * h + 2 * k := shB_len _ _ _ (by have := HZ.out; have : S2.data.toList.length = S2.size := (Lib.size_eq S2).symm; omega)
    have hkg : Blk wr g TC 34 := HG.out.kept hB (by rw [← HGG.out]; exact HG.out.lt)
    have e0 := hkg.cell 0
    have e1 := hkg.cell 1
    have e3 := hkg.cell 3
    have e5 := hkg.cell 5
    have e6 := hkg.cell 6
    have e7 := hkg.cell 7
    rw [ht0] at e0
    rw [ht1] at e1
    rw [ht3] at e3
    rw [ht5] at e5
    rw [ht6] at e6
    rw [ht7] at e7
    have glt := hkg.lt
    have HX := hide hX
    have HBR := hide hB
    obtain ⟨ba, bc, rfl⟩ := hX.shape
    rw [hlen] at HX ⊢
    have hgs : gb ≤ wr.heap.size := by have := hB.size; have := HGG.out; omega
    have HGS := hide hgs
    clear HVV hkg hgs HMK HBW hX hB
    by_cases hlt : h + k < nb
    · have hlt' : ((h + k : Nat) : Int) < (nb : Int) := by omega
      obtain ⟨I, hI⟩ : ∃ I, h + k = I := ⟨_, rfl⟩
      have HI := hide hI
      obtain ⟨A, hA⟩ : ∃ A : Nat, 4 * I = A := ⟨_, rfl⟩
      obtain ⟨v', w', hr, hx', hkb⟩ := app_x (S2.extract (A + 2) (A + 4)) HX.out HGS.out (by rw [hlen, ByteArray.size_extract]; omega)
      have HR := hide hr
      have hxx : XRow w' gb v' (shB S2.data.toList h (k + 1)) := by
        rw [ext_l, show A + 4 - (A + 2) = 2 by omega, ← hA, ← hI] at hx'
        exact hx'
      have REL : Hid (h + (k + 1) ≤ nb ∧ XRow w' gb v' (shB S2.data.toList h (k + 1)) ∧ Below gb w3 w') := hide ⟨by omega, hxx, HBR.out.trans hkb.below⟩
      have HKI := hide (show h + (k + 1) = I + 1 by omega)
      rw [hI] at hlt' ⊢
      have hi0 : (0 : Int) ≤ (I : Int) := by omega
      have m1 : IntKind.i64.wrap (4 * (I : Int)) = (A : Int) := by rw [IntKind.wrap_i64]; omega
      have m2 : IntKind.i64.wrap ((A : Int) + 2) = (A : Int) + 2 := by rw [IntKind.wrap_i64]; omega
      have m3 : IntKind.i64.wrap ((A : Int) + 4) = (A : Int) + 4 := by rw [IntKind.wrap_i64]; omega
      have a0 : (0 : Int) ≤ (A : Int) := by omega
      have a1 : (A : Int) + 4 ≤ (S2.size : Int) := by omega
      have a2 : (A : Int) + 4 ≤ 4 * (nb : Int) := by omega
      have a3 : (0 : Int) ≤ (A : Int) + 2 := by omega
      clear hA
      clear hr hx' hkb hxx hlt hk hI hlen HX HBR HGS
      go_wp2_with (at_builtin; refine Lib.wpList_append_run _ rfl _ _ _ _ rfl _ _ rfl rfl _ _ HR.out ?_)
      go_roundw
      case rel => exact ⟨k + 1, by have := HKI.out; go_num, REL⟩
      case measure => simp [intOf]; omega
    · have hlt' : ¬ ((h + k : Nat) : Int) < (nb : Int) := by omega
      obtain rfl : k = nb - h := by omega
      go_upto_region 12 with (fail)
      have CV : (convert 35 9 (.slice (some ⟨wr.heap.size, 0, none⟩) 2 2)).run Try.prog (wr.alloc (.cells #[.int .u8 ((h : Int) / 256), .int .u8 ((h : Int) % 256)] 5)).drew = .ok (.string ⟨#[hiB (h : Int), loB (h : Int)]⟩) (wr.alloc (.cells #[.int .u8 ((h : Int) / 256), .int .u8 ((h : Int) % 256)] 5)).drew := by
        have kb : Blk (wr.alloc (.cells (bcs [hiB (h : Int), loB (h : Int)]) 5)).drew wr.heap.size (bcs [hiB (h : Int), loB (h : Int)]) 5 := Blk.new wr (bcs [hiB (h : Int), loB (h : Int)]) 5
        have CV := blk_text kb rfl
        rw [show bcs [hiB (h : Int), loB (h : Int)] = #[.int .u8 ((h : Int) / 256), .int .u8 ((h : Int) % 256)] by rw [show (h : Int) / 256 = (h : Int) / 256 % 256 by omega, ← hiB_cell, ← loB_cell]; rfl] at CV
        exact CV
      go_region
      have hU : Below wr.heap.size wr (wr.alloc (.cells #[.int .u8 ((h : Int) / 256), .int .u8 ((h : Int) % 256)] 5)).drew := ((Below.refl wr.heap.size wr).alloc (Nat.le_refl _) _).drew
      generalize (wr.alloc (.cells #[.int .u8 ((h : Int) / 256), .int .u8 ((h : Int) % 256)] 5)).drew = U at hU ⊢
      have hkU : Blk U g TC 34 := (HG.out.kept HBR.out (by rw [← HGG.out]; exact HG.out.lt)).below hU
      have hXU := HX.out.later hU
      have HBU : Hid (Below V.heap.size V U) := hide (below_t5 (HV.out.trans (HBR.out.mono (by rw [← HGG.out]; exact HV.out.size))) hU)
      clear e0 e1 e3 e5 e6 e7 glt hU CV HX HBR HGS
      have e0 := hkU.cell 0
      have e1 := hkU.cell 1
      have e6 := hkU.cell 6
      have e7 := hkU.cell 7
      rw [ht0] at e0
      rw [ht1] at e1
      rw [ht6] at e6
      rw [ht7] at e7
      have glt := hkU.lt
      have CVT := hXU.text
      go_upto_region 13 with (fail)
      obtain ⟨TT, hTT⟩ : ∃ T : ByteArray, (⟨(shB S2.data.toList h (nb - h)).toArray⟩ : ByteArray) = T := ⟨_, rfl⟩
      obtain ⟨HT, hHT⟩ : ∃ T : ByteArray, (S1.extract 0 34 ++ ⟨#[hiB (h : Int), loB (h : Int)]⟩ : ByteArray) = T := ⟨_, rfl⟩
      rw [hHT]
      rw [hTT] at CVT
      have CVA := (hXU.later ((Below.refl U.heap.size U).alloc (Nat.le_refl _) (.cells zeroC 25))).text
      rw [hTT] at CVA
      have hXD : XRow U.drew gb (Value.slice ba (4 * h + 2 * (nb - h)) bc) (shB S2.data.toList h (nb - h)) := hXU
      have CVD := hXD.text
      rw [hTT] at CVD
      have hXE := hXD.later ((Below.refl U.drew.heap.size U.drew).alloc (Nat.le_refl _) (.cells zeroC 25))
      have CVE := hXE.text
      rw [hTT] at CVE
      have CVF := (show XRow (U.alloc (.cells zeroC 25)).drew gb (Value.slice ba (4 * h + 2 * (nb - h)) bc) (shB S2.data.toList h (nb - h)) from hXE).text
      rw [hTT] at CVF
      simp only [zeroC] at CVA CVE CVF
      clear hXD hXE
      generalize h + (nb - h) = NN
      generalize hLL : 4 * h + 2 * (nb - h) = LL at CVT CVA CVD CVE CVF ⊢
      rw [hLL] at hXU
      clear hLL
      have HXU := hide hXU
      have HKU := hide hkU
      clear hXU hkU
      have CR := hide (fun (W : World) (gt : Nat) (hk : Blk W gt #[.string headS, .string S0, .string ⟨#[104, 104, 101, 97]⟩, .string HT, .string ⟨#[104, 109, 116, 120]⟩, .string TT, .string maxpS, .string S3] 34) => rds_any ⟨up, sc, de, ga, b0, b1, b2, b3, lg, ad, be⟩ h gt nb W HGD.out HM.out.hna HH.out.1 HH.out.2 (by
        have e : #[.string headS, .string S0, .string ⟨#[104, 104, 101, 97]⟩, .string HT, .string ⟨#[104, 109, 116, 120]⟩, .string TT, .string maxpS, .string S3] = tabCS ⟨up, sc, de, ga, b0, b1, b2, b3, lg, ad, be⟩ h nb := by
          obtain ⟨q0, q1, q2, q3⟩ := HS.out
          have hnn : ad.length = nb := HM.out.hna
          rw [← hHT, ← hTT, q0, q1, q2, q3, hh_short]
          unfold tabCS shD
          simp only [hnn]
        rw [e] at hk
        exact hk))
      have K1 : Hid (Blk (U.alloc (.cells #[.string headS, .string S0, .string ⟨#[104, 104, 101, 97]⟩, .string HT, .string ⟨#[104, 109, 116, 120]⟩, .string TT, .string maxpS, .string S3] 34)).drew U.heap.size #[.string headS, .string S0, .string ⟨#[104, 104, 101, 97]⟩, .string HT, .string ⟨#[104, 109, 116, 120]⟩, .string TT, .string maxpS, .string S3] 34) := hide (Blk.new U #[.string headS, .string S0, .string ⟨#[104, 104, 101, 97]⟩, .string HT, .string ⟨#[104, 109, 116, 120]⟩, .string TT, .string maxpS, .string S3] 34)
      have sUT : (U.alloc (.cells #[.string headS, .string S0, .string ⟨#[104, 104, 101, 97]⟩, .string HT, .string ⟨#[104, 109, 116, 120]⟩, .string TT, .string maxpS, .string S3] 34)).heap.size = U.heap.size + 1 := by simp
      have sUZ : (U.alloc (.cells #[.int .i64 0, .int .i64 0, .int .i64 0, .int .i64 0, .int .i64 0, .int .i64 0, .int .i64 0, .int .i64 0, .bool false, .slice none 0 0, .slice none 0 0] 25)).heap.size = U.heap.size + 1 := by simp
      have K2 : Hid (Blk ((U.alloc (.cells #[.string headS, .string S0, .string ⟨#[104, 104, 101, 97]⟩, .string HT, .string ⟨#[104, 109, 116, 120]⟩, .string TT, .string maxpS, .string S3] 34)).alloc (.cells #[.int .i64 0, .int .i64 0, .int .i64 0, .int .i64 0, .int .i64 0, .int .i64 0, .int .i64 0, .int .i64 0, .bool false, .slice none 0 0, .slice none 0 0] 25)).drew U.heap.size #[.string headS, .string S0, .string ⟨#[104, 104, 101, 97]⟩, .string HT, .string ⟨#[104, 109, 116, 120]⟩, .string TT, .string maxpS, .string S3] 34 ∧ Blk ((U.alloc (.cells #[.string headS, .string S0, .string ⟨#[104, 104, 101, 97]⟩, .string HT, .string ⟨#[104, 109, 116, 120]⟩, .string TT, .string maxpS, .string S3] 34)).alloc (.cells #[.int .i64 0, .int .i64 0, .int .i64 0, .int .i64 0, .int .i64 0, .int .i64 0, .int .i64 0, .int .i64 0, .bool false, .slice none 0 0, .slice none 0 0] 25)).drew (U.heap.size + 1) zeroC 25) := hide ⟨(Blk.new U #[.string headS, .string S0, .string ⟨#[104, 104, 101, 97]⟩, .string HT, .string ⟨#[104, 109, 116, 120]⟩, .string TT, .string maxpS, .string S3] 34).below (((Below.refl _ _).alloc (Nat.le_refl _) _).drew), by have := Blk.new (U.alloc (.cells #[.string headS, .string S0, .string ⟨#[104, 104, 101, 97]⟩, .string HT, .string ⟨#[104, 109, 116, 120]⟩, .string TT, .string maxpS, .string S3] 34)) zeroC 25; rw [sUT] at this; exact this⟩
      have K3 : Hid (Blk ((U.alloc (.cells #[.int .i64 0, .int .i64 0, .int .i64 0, .int .i64 0, .int .i64 0, .int .i64 0, .int .i64 0, .int .i64 0, .bool false, .slice none 0 0, .slice none 0 0] 25)).alloc (.cells #[.string headS, .string S0, .string ⟨#[104, 104, 101, 97]⟩, .string HT, .string ⟨#[104, 109, 116, 120]⟩, .string TT, .string maxpS, .string S3] 34)).drew (U.heap.size + 1) #[.string headS, .string S0, .string ⟨#[104, 104, 101, 97]⟩, .string HT, .string ⟨#[104, 109, 116, 120]⟩, .string TT, .string maxpS, .string S3] 34 ∧ Blk ((U.alloc (.cells #[.int .i64 0, .int .i64 0, .int .i64 0, .int .i64 0, .int .i64 0, .int .i64 0, .int .i64 0, .int .i64 0, .bool false, .slice none 0 0, .slice none 0 0] 25)).alloc (.cells #[.string headS, .string S0, .string ⟨#[104, 104, 101, 97]⟩, .string HT, .string ⟨#[104, 109, 116, 120]⟩, .string TT, .string maxpS, .string S3] 34)).drew U.heap.size zeroC 25) := hide ⟨by have := Blk.new (U.alloc (.cells #[.int .i64 0, .int .i64 0, .int .i64 0, .int .i64 0, .int .i64 0, .int .i64 0, .int .i64 0, .int .i64 0, .bool false, .slice none 0 0, .slice none 0 0] 25)) #[.string headS, .string S0, .string ⟨#[104, 104, 101, 97]⟩, .string HT, .string ⟨#[104, 109, 116, 120]⟩, .string TT, .string maxpS, .string S3] 34; rw [sUZ] at this; exact this, (Blk.new U zeroC 25).below (((Below.refl _ _).alloc (Nat.le_refl _) _).drew)⟩
      clear sUT sUZ
      go_cut [11, 12] from 110 to 125 (fun s11 s12 wc => Hid (∃ (y p q : Nat) (a0 a1 a2 a3 a4 a5 a6 a7 : Int) (bb : Bool), s11 = .pointer (some ⟨y, 0, none⟩) ∧ s12 = .int .i64 0 ∧ Blk wc y #[.int .i64 a0, .int .i64 a1, .int .i64 a2, .int .i64 a3, .int .i64 a4, .int .i64 a5, .int .i64 a6, .int .i64 a7, .bool bb, .slice (some ⟨p, 0, none⟩) nb nb, .slice (some ⟨q, 0, none⟩) nb nb] 25 ∧ Blk wc p (arr (shF ad h) nb nb) 3 ∧ Blk wc q (ints be) 3 ∧ Below V.heap.size V wc))
      case first =>
        have HS5 := hide (show ∀ y : World, Below U.heap.size U y → (y.cell? ⟨g, 0, none⟩ = some (.string headS) ∧ y.cell? ⟨g, 1, none⟩ = some (.string S0) ∧ y.cell? ⟨g, 6, none⟩ = some (.string maxpS) ∧ y.cell? ⟨g, 7, none⟩ = some (.string S3) ∧ (convert 35 9 (.slice ba LL bc)).run Try.prog y = .ok (.string TT) y) from fun y hy => by
          have kb := HKU.out.below hy
          refine ⟨by rw [kb.cell]; exact ht0, by rw [kb.cell]; exact ht1, by rw [kb.cell]; exact ht6, by rw [kb.cell]; exact ht7, ?_⟩
          have := (HXU.out.later hy).text
          rw [hTT] at this
          exact this)
        clear CVT CVA CVD CVE CVF e0 e1 e6 e7 K1 K2 K3
        refine wp_region_held_drew (S := (fun y => y.cell? ⟨g, 0, none⟩ = some (.string headS) ∧ y.cell? ⟨g, 1, none⟩ = some (.string S0) ∧ y.cell? ⟨g, 6, none⟩ = some (.string maxpS) ∧ y.cell? ⟨g, 7, none⟩ = some (.string S3) ∧ (convert 35 9 (.slice ba LL bc)).run Try.prog y = .ok (.string TT) y)) (by kernel_rfl) (HS5.out _ ((Below.refl _ _).drew)) (fun hHeld => ?_)
        refine takeW (i := 0) (d := 111) (v := .slice (some ⟨g, 0, none⟩) 4 4) rfl rfl (by kernel_rfl) (by kernel_rfl) (by kernel_rfl) (fun _ _ _ h => h) (by rfl) ?_ (by assumption) ?_
        · intro x9 hSx
          obtain ⟨q0, q1, q2, q3, q4⟩ := hSx
          go_simp
        simp only [Act.put, List.setIfInBounds_toArray, List.set_cons_zero, List.set_cons_succ]
        refine takeW (i := 1) (d := 112) (v := .pointer (some ⟨g, 0, none⟩)) rfl rfl (by kernel_rfl) (by kernel_rfl) (by kernel_rfl) (fun _ _ _ h => h) (by rfl) ?_ (by assumption) ?_
        · intro x9 hSx
          obtain ⟨q0, q1, q2, q3, q4⟩ := hSx
          go_simp
        simp only [Act.put, List.setIfInBounds_toArray, List.set_cons_zero, List.set_cons_succ]
        refine takeW (i := 2) (d := 113) (v := .agg #[.string headS, .string S0]) rfl rfl (by kernel_rfl) (by kernel_rfl) (by kernel_rfl) (fun _ _ _ h => h) (by rfl) ?_ (by assumption) ?_
        · intro x9 hSx
          obtain ⟨q0, q1, q2, q3, q4⟩ := hSx
          go_simp
        simp only [Act.put, List.setIfInBounds_toArray, List.set_cons_zero, List.set_cons_succ]
        refine takeW (i := 3) (d := 114) (v := .string HT) rfl rfl (by kernel_rfl) (by kernel_rfl) (by kernel_rfl) (fun _ _ _ h => h) (by rfl) ?_ (by assumption) ?_
        · intro x9 hSx
          obtain ⟨q0, q1, q2, q3, q4⟩ := hSx
          go_simp
        simp only [Act.put, List.setIfInBounds_toArray, List.set_cons_zero, List.set_cons_succ]
        refine takeW (i := 4) (d := 115) (v := .agg #[.string ⟨#[104, 104, 101, 97]⟩, .string HT]) rfl rfl (by kernel_rfl) (by kernel_rfl) (by kernel_rfl) (fun _ _ _ h => h) (by rfl) ?_ (by assumption) ?_
        · intro x9 hSx
          obtain ⟨q0, q1, q2, q3, q4⟩ := hSx
          go_simp
        simp only [Act.put, List.setIfInBounds_toArray, List.set_cons_zero, List.set_cons_succ]
        refine takeW (i := 5) (d := 116) (v := .slice ba LL bc) rfl rfl (by kernel_rfl) (by kernel_rfl) (by kernel_rfl) (fun _ _ _ h => h) (by rfl) ?_ (by assumption) ?_
        · intro x9 hSx
          obtain ⟨q0, q1, q2, q3, q4⟩ := hSx
          go_simp
        simp only [Act.put, List.setIfInBounds_toArray, List.set_cons_zero, List.set_cons_succ]
        refine takeW (i := 6) (d := 117) (v := .string TT) rfl rfl (by kernel_rfl) (by kernel_rfl) (by kernel_rfl) (fun _ _ _ h => h) (by rfl) ?_ (by assumption) ?_
        · intro x9 hSx
          obtain ⟨q0, q1, q2, q3, q4⟩ := hSx
          go_simp
        simp only [Act.put, List.setIfInBounds_toArray, List.set_cons_zero, List.set_cons_succ]
        refine takeW (i := 7) (d := 118) (v := .agg #[.string ⟨#[104, 109, 116, 120]⟩, .string TT]) rfl rfl (by kernel_rfl) (by kernel_rfl) (by kernel_rfl) (fun _ _ _ h => h) (by rfl) ?_ (by assumption) ?_
        · intro x9 hSx
          obtain ⟨q0, q1, q2, q3, q4⟩ := hSx
          go_simp
        simp only [Act.put, List.setIfInBounds_toArray, List.set_cons_zero, List.set_cons_succ]
        refine takeW (i := 8) (d := 119) (v := .slice (some ⟨g, 0, none⟩) 4 4) rfl rfl (by kernel_rfl) (by kernel_rfl) (by kernel_rfl) (fun _ _ _ h => h) (by rfl) ?_ (by assumption) ?_
        · intro x9 hSx
          obtain ⟨q0, q1, q2, q3, q4⟩ := hSx
          go_simp
        simp only [Act.put, List.setIfInBounds_toArray, List.set_cons_zero, List.set_cons_succ]
        refine takeW (i := 9) (d := 120) (v := .pointer (some ⟨g, 6, none⟩)) rfl rfl (by kernel_rfl) (by kernel_rfl) (by kernel_rfl) (fun _ _ _ h => h) (by rfl) ?_ (by assumption) ?_
        · intro x9 hSx
          obtain ⟨q0, q1, q2, q3, q4⟩ := hSx
          go_simp
        simp only [Act.put, List.setIfInBounds_toArray, List.set_cons_zero, List.set_cons_succ]
        refine takeW (i := 10) (d := 121) (v := .agg #[.string maxpS, .string S3]) rfl rfl (by kernel_rfl) (by kernel_rfl) (by kernel_rfl) (fun _ _ _ h => h) (by rfl) ?_ (by assumption) ?_
        · intro x9 hSx
          obtain ⟨q0, q1, q2, q3, q4⟩ := hSx
          go_simp
        simp only [Act.put, List.setIfInBounds_toArray, List.set_cons_zero, List.set_cons_succ]
        have HTB := hide (show ∀ W : World, Blk (W.alloc (.cells #[.string headS, .string S0, .string ⟨#[104, 104, 101, 97]⟩, .string HT, .string ⟨#[104, 109, 116, 120]⟩, .string TT, .string maxpS, .string S3] 34)) W.heap.size #[.string headS, .string S0, .string ⟨#[104, 104, 101, 97]⟩, .string HT, .string ⟨#[104, 109, 116, 120]⟩, .string TT, .string maxpS, .string S3] 34 from fun W => Blk.new W _ _)
        have HZB := hide (show ∀ W : World, Blk (W.alloc (.cells zeroC 25)) W.heap.size zeroC 25 from fun W => Blk.new W _ _)
        refine wpAnyH_ready (rs := [11, 16]) (by kernel_rfl) (by simp) ?_
        refine AllReadyH.cons rfl (fun K hK => ?_) (AllReadyH.cons rfl (fun K hK => ?_) AllReadyH.nil)
        · rw [if_pos (by rfl)]
          go_simp
          have kA : Blk (U.alloc (.cells #[.string headS, .string S0, .string ⟨#[104, 104, 101, 97]⟩, .string HT, .string ⟨#[104, 109, 116, 120]⟩, .string TT, .string maxpS, .string S3] 34)).drew U.heap.size #[.string headS, .string S0, .string ⟨#[104, 104, 101, 97]⟩, .string HT, .string ⟨#[104, 109, 116, 120]⟩, .string TT, .string maxpS, .string S3] 34 := HTB.out U
          have bA : Below U.heap.size U (U.alloc (.cells #[.string headS, .string S0, .string ⟨#[104, 104, 101, 97]⟩, .string HT, .string ⟨#[104, 109, 116, 120]⟩, .string TT, .string maxpS, .string S3] 34)).drew := ((Below.refl _ _).alloc (Nat.le_refl _) _).drew
          generalize (U.alloc (.cells #[.string headS, .string S0, .string ⟨#[104, 104, 101, 97]⟩, .string HT, .string ⟨#[104, 109, 116, 120]⟩, .string TT, .string maxpS, .string S3] 34)).drew = WA at kA bA ⊢
          refine hK.out _ _ (HS5.out _ bA) (fun hHeld => ?_)
          clear hK K
          refine wpAnyH_ready (rs := [12, 16]) (by kernel_rfl) (by simp) ?_
          refine AllReadyH.cons rfl (fun K hK => ?_) (AllReadyH.cons rfl (fun K hK => ?_) AllReadyH.nil)
          · rw [if_pos (by rfl)]
            go_simp
            go_at_call 8
            refine (CR.out _ _ kA).mono ?_
            rintro e wy ⟨p, q, a0, a1, a2, a3, a4, a5, a6, a7, bb, rfl, kp, kq, hp, hq, hpq, hb⟩
            have bY : Below U.heap.size U wy := below_t5 bA hb
            refine hK.out _ _ (HS5.out _ bY) (fun hHeld => ?_)
            clear hK K
            refine takeW (i := 13) (d := 110) (v := .tuple #[.agg #[.int .i64 a0, .int .i64 a1, .int .i64 a2, .int .i64 a3, .int .i64 a4, .int .i64 a5, .int .i64 a6, .int .i64 a7, .bool bb, .slice (some ⟨p, 0, none⟩) nb nb, .slice (some ⟨q, 0, none⟩) nb nb], .int .i64 0]) rfl rfl (by kernel_rfl) (by kernel_rfl) (by kernel_rfl) (fun _ _ _ h => h) (by rfl) ?_ (by assumption) ?_
            · intro x9 hSx
              obtain ⟨q0, q1, q2, q3, q4⟩ := hSx
              go_simp
            simp only [Act.put, List.setIfInBounds_toArray, List.set_cons_zero, List.set_cons_succ]
            refine takeW (i := 14) (d := 124) (v := .agg #[.int .i64 a0, .int .i64 a1, .int .i64 a2, .int .i64 a3, .int .i64 a4, .int .i64 a5, .int .i64 a6, .int .i64 a7, .bool bb, .slice (some ⟨p, 0, none⟩) nb nb, .slice (some ⟨q, 0, none⟩) nb nb]) rfl rfl (by kernel_rfl) (by kernel_rfl) (by kernel_rfl) (fun _ _ _ h => h) (by rfl) ?_ (by assumption) ?_
            · intro x9 hSx
              obtain ⟨q0, q1, q2, q3, q4⟩ := hSx
              go_simp
            simp only [Act.put, List.setIfInBounds_toArray, List.set_cons_zero, List.set_cons_succ]
            refine takeW (i := 15) (d := 125) (v := .int .i64 0) rfl rfl (by kernel_rfl) (by kernel_rfl) (by kernel_rfl) (fun _ _ _ h => h) (by rfl) ?_ (by assumption) ?_
            · intro x9 hSx
              obtain ⟨q0, q1, q2, q3, q4⟩ := hSx
              go_simp
            simp only [Act.put, List.setIfInBounds_toArray, List.set_cons_zero, List.set_cons_succ]
            refine wpAnyH_ready (rs := [16]) (by kernel_rfl) (by simp) ?_
            refine AllReadyH.cons rfl (fun K hK => ?_) AllReadyH.nil
            rw [if_pos (by rfl)]
            go_simp
            have kz := HZB.out wy
            have bz := (Below.refl wy.heap.size wy).alloc (Nat.le_refl _) (.cells zeroC 25)
            have kp0 := kp.lt
            have kq0 := kq.lt
            replace kp := kp.below bz
            replace kq := kq.below bz
            have hpy : p ≠ wy.heap.size := by have := kp0; omega
            have hqy : q ≠ wy.heap.size := by have := kq0; omega
            generalize wy.alloc (.cells zeroC 25) = wz at kz bz kp kq ⊢
            have bZ : Below U.heap.size U wz := below_t5 bY bz
            have hyU : U.heap.size ≤ wy.heap.size := bY.size
            refine hK.out _ _ (HS5.out _ bZ) (fun hHeld => ?_)
            clear hK K
            refine wpAnyH_ready (rs := [17]) (by kernel_rfl) (by simp) ?_
            refine AllReadyH.cons rfl (fun K hK => ?_) AllReadyH.nil
            have z0 := kz.cell 0
            have z1 := kz.cell 1
            have z2 := kz.cell 2
            have z3 := kz.cell 3
            have z4 := kz.cell 4
            have z5 := kz.cell 5
            have z6 := kz.cell 6
            have z7 := kz.cell 7
            have z8 := kz.cell 8
            have z9 := kz.cell 9
            have z10 := kz.cell 10
            simp at z0 z1 z2 z3 z4 z5 z6 z7 z8 z9 z10
            have f0 := kz.frozen 0
            have f1 := kz.frozen 1
            have f2 := kz.frozen 2
            have f3 := kz.frozen 3
            have f4 := kz.frozen 4
            have f5 := kz.frozen 5
            have f6 := kz.frozen 6
            have f7 := kz.frozen 7
            have f8 := kz.frozen 8
            have f9 := kz.frozen 9
            have f10 := kz.frozen 10
            have zlt := kz.lt
            rw [if_pos (by rfl)]
            go_simp
            obtain ⟨ky9, kp9, kq9, hb9⟩ := fin_box (V := U) kz kp kq hpy hqy bZ hyU (.int .i64 a0) (.int .i64 a1) (.int .i64 a2) (.int .i64 a3) (.int .i64 a4) (.int .i64 a5) (.int .i64 a6) (.int .i64 a7) (.bool bb) (.slice (some ⟨p, 0, none⟩) nb nb) (.slice (some ⟨q, 0, none⟩) nb nb)
            clear z0 f0 z1 f1 z2 f2 z3 f3 z4 f4 z5 f5 z6 f6 z7 f7 z8 f8 z9 f9 z10 f10
            generalize (((((((((((wz.setCell ⟨wy.heap.size, 0, none⟩ (.int .i64 a0)).setCell ⟨wy.heap.size, 1, none⟩ (.int .i64 a1)).setCell ⟨wy.heap.size, 2, none⟩ (.int .i64 a2)).setCell ⟨wy.heap.size, 3, none⟩ (.int .i64 a3)).setCell ⟨wy.heap.size, 4, none⟩ (.int .i64 a4)).setCell ⟨wy.heap.size, 5, none⟩ (.int .i64 a5)).setCell ⟨wy.heap.size, 6, none⟩ (.int .i64 a6)).setCell ⟨wy.heap.size, 7, none⟩ (.int .i64 a7)).setCell ⟨wy.heap.size, 8, none⟩ (.bool bb)).setCell ⟨wy.heap.size, 9, none⟩ (.slice (some ⟨p, 0, none⟩) nb nb)).setCell ⟨wy.heap.size, 10, none⟩ (.slice (some ⟨q, 0, none⟩) nb nb)) = W9 at ky9 kp9 kq9 hb9 ⊢
            refine hK.out _ _ (HS5.out _ hb9) (fun hHeld => ?_)
            clear hK K
            refine takeW (i := 18) (d := 12) (v := .int .i64 0) rfl rfl (by kernel_rfl) (by kernel_rfl) (by kernel_rfl) (fun _ _ _ h => h) (by rfl) ?_ (by assumption) ?_
            · intro x9 hSx
              obtain ⟨q0, q1, q2, q3, q4⟩ := hSx
              go_simp
            simp only [Act.put, List.setIfInBounds_toArray, List.set_cons_zero, List.set_cons_succ]
            refine wpAnyH_done (by kernel_rfl) ?_ _
            go_wp2_with fail
            go_meet
            exact hide ⟨_, p, q, a0, a1, a2, a3, a4, a5, a6, a7, bb, rfl, rfl, ky9, kp9, kq9, below_t5 HBU.out hb9⟩
          · rw [if_pos (by rfl)]
            go_simp
            have kz := HZB.out WA
            have bz := (Below.refl WA.heap.size WA).alloc (Nat.le_refl _) (.cells zeroC 25)
            have kA2 := kA.below bz
            generalize WA.alloc (.cells zeroC 25) = wz at kz bz kA2 ⊢
            have bZ : Below U.heap.size U wz := below_t5 bA bz
            refine hK.out _ _ (HS5.out _ bZ) (fun hHeld => ?_)
            clear hK K
            refine wpAnyH_ready (rs := [12]) (by kernel_rfl) (by simp) ?_
            refine AllReadyH.cons rfl (fun K hK => ?_) AllReadyH.nil
            rw [if_pos (by rfl)]
            go_simp
            go_at_call 8
            refine (CR.out _ _ kA2).mono ?_
            rintro e wy ⟨p, q, a0, a1, a2, a3, a4, a5, a6, a7, bb, rfl, kp, kq, hp, hq, hpq, hb⟩
            have bY : Below U.heap.size U wy := below_t5 bZ hb
            refine hK.out _ _ (HS5.out _ bY) (fun hHeld => ?_)
            clear hK K
            refine takeW (i := 13) (d := 110) (v := .tuple #[.agg #[.int .i64 a0, .int .i64 a1, .int .i64 a2, .int .i64 a3, .int .i64 a4, .int .i64 a5, .int .i64 a6, .int .i64 a7, .bool bb, .slice (some ⟨p, 0, none⟩) nb nb, .slice (some ⟨q, 0, none⟩) nb nb], .int .i64 0]) rfl rfl (by kernel_rfl) (by kernel_rfl) (by kernel_rfl) (fun _ _ _ h => h) (by rfl) ?_ (by assumption) ?_
            · intro x9 hSx
              obtain ⟨q0, q1, q2, q3, q4⟩ := hSx
              go_simp
            simp only [Act.put, List.setIfInBounds_toArray, List.set_cons_zero, List.set_cons_succ]
            refine takeW (i := 14) (d := 124) (v := .agg #[.int .i64 a0, .int .i64 a1, .int .i64 a2, .int .i64 a3, .int .i64 a4, .int .i64 a5, .int .i64 a6, .int .i64 a7, .bool bb, .slice (some ⟨p, 0, none⟩) nb nb, .slice (some ⟨q, 0, none⟩) nb nb]) rfl rfl (by kernel_rfl) (by kernel_rfl) (by kernel_rfl) (fun _ _ _ h => h) (by rfl) ?_ (by assumption) ?_
            · intro x9 hSx
              obtain ⟨q0, q1, q2, q3, q4⟩ := hSx
              go_simp
            simp only [Act.put, List.setIfInBounds_toArray, List.set_cons_zero, List.set_cons_succ]
            refine takeW (i := 15) (d := 125) (v := .int .i64 0) rfl rfl (by kernel_rfl) (by kernel_rfl) (by kernel_rfl) (fun _ _ _ h => h) (by rfl) ?_ (by assumption) ?_
            · intro x9 hSx
              obtain ⟨q0, q1, q2, q3, q4⟩ := hSx
              go_simp
            simp only [Act.put, List.setIfInBounds_toArray, List.set_cons_zero, List.set_cons_succ]
            have hpy : p ≠ WA.heap.size := by have := kz.lt; omega
            have hqy : q ≠ WA.heap.size := by have := kz.lt; omega
            replace kz := kz.below hb
            have hyU : U.heap.size ≤ WA.heap.size := bA.size
            refine wpAnyH_ready (rs := [17]) (by kernel_rfl) (by simp) ?_
            refine AllReadyH.cons rfl (fun K hK => ?_) AllReadyH.nil
            have z0 := kz.cell 0
            have z1 := kz.cell 1
            have z2 := kz.cell 2
            have z3 := kz.cell 3
            have z4 := kz.cell 4
            have z5 := kz.cell 5
            have z6 := kz.cell 6
            have z7 := kz.cell 7
            have z8 := kz.cell 8
            have z9 := kz.cell 9
            have z10 := kz.cell 10
            simp at z0 z1 z2 z3 z4 z5 z6 z7 z8 z9 z10
            have f0 := kz.frozen 0
            have f1 := kz.frozen 1
            have f2 := kz.frozen 2
            have f3 := kz.frozen 3
            have f4 := kz.frozen 4
            have f5 := kz.frozen 5
            have f6 := kz.frozen 6
            have f7 := kz.frozen 7
            have f8 := kz.frozen 8
            have f9 := kz.frozen 9
            have f10 := kz.frozen 10
            have zlt := kz.lt
            rw [if_pos (by rfl)]
            go_simp
            obtain ⟨ky9, kp9, kq9, hb9⟩ := fin_box (V := U) kz kp kq hpy hqy bY hyU (.int .i64 a0) (.int .i64 a1) (.int .i64 a2) (.int .i64 a3) (.int .i64 a4) (.int .i64 a5) (.int .i64 a6) (.int .i64 a7) (.bool bb) (.slice (some ⟨p, 0, none⟩) nb nb) (.slice (some ⟨q, 0, none⟩) nb nb)
            clear z0 f0 z1 f1 z2 f2 z3 f3 z4 f4 z5 f5 z6 f6 z7 f7 z8 f8 z9 f9 z10 f10
            generalize (((((((((((wy.setCell ⟨WA.heap.size, 0, none⟩ (.int .i64 a0)).setCell ⟨WA.heap.size, 1, none⟩ (.int .i64 a1)).setCell ⟨WA.heap.size, 2, none⟩ (.int .i64 a2)).setCell ⟨WA.heap.size, 3, none⟩ (.int .i64 a3)).setCell ⟨WA.heap.size, 4, none⟩ (.int .i64 a4)).setCell ⟨WA.heap.size, 5, none⟩ (.int .i64 a5)).setCell ⟨WA.heap.size, 6, none⟩ (.int .i64 a6)).setCell ⟨WA.heap.size, 7, none⟩ (.int .i64 a7)).setCell ⟨WA.heap.size, 8, none⟩ (.bool bb)).setCell ⟨WA.heap.size, 9, none⟩ (.slice (some ⟨p, 0, none⟩) nb nb)).setCell ⟨WA.heap.size, 10, none⟩ (.slice (some ⟨q, 0, none⟩) nb nb)) = W9 at ky9 kp9 kq9 hb9 ⊢
            refine hK.out _ _ (HS5.out _ hb9) (fun hHeld => ?_)
            clear hK K
            refine takeW (i := 18) (d := 12) (v := .int .i64 0) rfl rfl (by kernel_rfl) (by kernel_rfl) (by kernel_rfl) (fun _ _ _ h => h) (by rfl) ?_ (by assumption) ?_
            · intro x9 hSx
              obtain ⟨q0, q1, q2, q3, q4⟩ := hSx
              go_simp
            simp only [Act.put, List.setIfInBounds_toArray, List.set_cons_zero, List.set_cons_succ]
            refine wpAnyH_done (by kernel_rfl) ?_ _
            go_wp2_with fail
            go_meet
            exact hide ⟨_, p, q, a0, a1, a2, a3, a4, a5, a6, a7, bb, rfl, rfl, ky9, kp9, kq9, below_t5 HBU.out hb9⟩
        · rw [if_pos (by rfl)]
          go_simp
          have kz : Blk (U.alloc (.cells zeroC 25)).drew U.heap.size zeroC 25 := HZB.out U
          have bB : Below U.heap.size U (U.alloc (.cells zeroC 25)).drew := ((Below.refl _ _).alloc (Nat.le_refl _) _).drew
          generalize (U.alloc (.cells zeroC 25)).drew = WB at kz bB ⊢
          refine hK.out _ _ (HS5.out _ bB) (fun hHeld => ?_)
          clear hK K
          refine wpAnyH_ready (rs := [11]) (by kernel_rfl) (by simp) ?_
          refine AllReadyH.cons rfl (fun K hK => ?_) AllReadyH.nil
          rw [if_pos (by rfl)]
          go_simp
          have kA := HTB.out WB
          have bz := (Below.refl WB.heap.size WB).alloc (Nat.le_refl _) (.cells #[.string headS, .string S0, .string ⟨#[104, 104, 101, 97]⟩, .string HT, .string ⟨#[104, 109, 116, 120]⟩, .string TT, .string maxpS, .string S3] 34)
          generalize WB.alloc (.cells #[.string headS, .string S0, .string ⟨#[104, 104, 101, 97]⟩, .string HT, .string ⟨#[104, 109, 116, 120]⟩, .string TT, .string maxpS, .string S3] 34) = WA at kA bz ⊢
          replace kz := kz.below bz
          have bA : Below U.heap.size U WA := below_t5 bB bz
          refine hK.out _ _ (HS5.out _ bA) (fun hHeld => ?_)
          clear hK K
          refine wpAnyH_ready (rs := [12]) (by kernel_rfl) (by simp) ?_
          refine AllReadyH.cons rfl (fun K hK => ?_) AllReadyH.nil
          rw [if_pos (by rfl)]
          go_simp
          go_at_call 8
          refine (CR.out _ _ kA).mono ?_
          rintro e wy ⟨p, q, a0, a1, a2, a3, a4, a5, a6, a7, bb, rfl, kp, kq, hp, hq, hpq, hb⟩
          have bY : Below U.heap.size U wy := below_t5 bA hb
          refine hK.out _ _ (HS5.out _ bY) (fun hHeld => ?_)
          clear hK K
          refine takeW (i := 13) (d := 110) (v := .tuple #[.agg #[.int .i64 a0, .int .i64 a1, .int .i64 a2, .int .i64 a3, .int .i64 a4, .int .i64 a5, .int .i64 a6, .int .i64 a7, .bool bb, .slice (some ⟨p, 0, none⟩) nb nb, .slice (some ⟨q, 0, none⟩) nb nb], .int .i64 0]) rfl rfl (by kernel_rfl) (by kernel_rfl) (by kernel_rfl) (fun _ _ _ h => h) (by rfl) ?_ (by assumption) ?_
          · intro x9 hSx
            obtain ⟨q0, q1, q2, q3, q4⟩ := hSx
            go_simp
          simp only [Act.put, List.setIfInBounds_toArray, List.set_cons_zero, List.set_cons_succ]
          refine takeW (i := 14) (d := 124) (v := .agg #[.int .i64 a0, .int .i64 a1, .int .i64 a2, .int .i64 a3, .int .i64 a4, .int .i64 a5, .int .i64 a6, .int .i64 a7, .bool bb, .slice (some ⟨p, 0, none⟩) nb nb, .slice (some ⟨q, 0, none⟩) nb nb]) rfl rfl (by kernel_rfl) (by kernel_rfl) (by kernel_rfl) (fun _ _ _ h => h) (by rfl) ?_ (by assumption) ?_
          · intro x9 hSx
            obtain ⟨q0, q1, q2, q3, q4⟩ := hSx
            go_simp
          simp only [Act.put, List.setIfInBounds_toArray, List.set_cons_zero, List.set_cons_succ]
          refine takeW (i := 15) (d := 125) (v := .int .i64 0) rfl rfl (by kernel_rfl) (by kernel_rfl) (by kernel_rfl) (fun _ _ _ h => h) (by rfl) ?_ (by assumption) ?_
          · intro x9 hSx
            obtain ⟨q0, q1, q2, q3, q4⟩ := hSx
            go_simp
          simp only [Act.put, List.setIfInBounds_toArray, List.set_cons_zero, List.set_cons_succ]
          have hpy : p ≠ U.heap.size := by have := kz.lt; omega
          have hqy : q ≠ U.heap.size := by have := kz.lt; omega
          replace kz := kz.below hb
          have hyU : U.heap.size ≤ U.heap.size := Nat.le_refl _
          refine wpAnyH_ready (rs := [17]) (by kernel_rfl) (by simp) ?_
          refine AllReadyH.cons rfl (fun K hK => ?_) AllReadyH.nil
          have z0 := kz.cell 0
          have z1 := kz.cell 1
          have z2 := kz.cell 2
          have z3 := kz.cell 3
          have z4 := kz.cell 4
          have z5 := kz.cell 5
          have z6 := kz.cell 6
          have z7 := kz.cell 7
          have z8 := kz.cell 8
          have z9 := kz.cell 9
          have z10 := kz.cell 10
          simp at z0 z1 z2 z3 z4 z5 z6 z7 z8 z9 z10
          have f0 := kz.frozen 0
          have f1 := kz.frozen 1
          have f2 := kz.frozen 2
          have f3 := kz.frozen 3
          have f4 := kz.frozen 4
          have f5 := kz.frozen 5
          have f6 := kz.frozen 6
          have f7 := kz.frozen 7
          have f8 := kz.frozen 8
          have f9 := kz.frozen 9
          have f10 := kz.frozen 10
          have zlt := kz.lt
          rw [if_pos (by rfl)]
          go_simp
          obtain ⟨ky9, kp9, kq9, hb9⟩ := fin_box (V := U) kz kp kq hpy hqy bY hyU (.int .i64 a0) (.int .i64 a1) (.int .i64 a2) (.int .i64 a3) (.int .i64 a4) (.int .i64 a5) (.int .i64 a6) (.int .i64 a7) (.bool bb) (.slice (some ⟨p, 0, none⟩) nb nb) (.slice (some ⟨q, 0, none⟩) nb nb)
          clear z0 f0 z1 f1 z2 f2 z3 f3 z4 f4 z5 f5 z6 f6 z7 f7 z8 f8 z9 f9 z10 f10
          generalize (((((((((((wy.setCell ⟨U.heap.size, 0, none⟩ (.int .i64 a0)).setCell ⟨U.heap.size, 1, none⟩ (.int .i64 a1)).setCell ⟨U.heap.size, 2, none⟩ (.int .i64 a2)).setCell ⟨U.heap.size, 3, none⟩ (.int .i64 a3)).setCell ⟨U.heap.size, 4, none⟩ (.int .i64 a4)).setCell ⟨U.heap.size, 5, none⟩ (.int .i64 a5)).setCell ⟨U.heap.size, 6, none⟩ (.int .i64 a6)).setCell ⟨U.heap.size, 7, none⟩ (.int .i64 a7)).setCell ⟨U.heap.size, 8, none⟩ (.bool bb)).setCell ⟨U.heap.size, 9, none⟩ (.slice (some ⟨p, 0, none⟩) nb nb)).setCell ⟨U.heap.size, 10, none⟩ (.slice (some ⟨q, 0, none⟩) nb nb)) = W9 at ky9 kp9 kq9 hb9 ⊢
          refine hK.out _ _ (HS5.out _ hb9) (fun hHeld => ?_)
          clear hK K
          refine takeW (i := 18) (d := 12) (v := .int .i64 0) rfl rfl (by kernel_rfl) (by kernel_rfl) (by kernel_rfl) (fun _ _ _ h => h) (by rfl) ?_ (by assumption) ?_
          · intro x9 hSx
            obtain ⟨q0, q1, q2, q3, q4⟩ := hSx
            go_simp
          simp only [Act.put, List.setIfInBounds_toArray, List.set_cons_zero, List.set_cons_succ]
          refine wpAnyH_done (by kernel_rfl) ?_ _
          go_wp2_with fail
          go_meet
          exact hide ⟨_, p, q, a0, a1, a2, a3, a4, a5, a6, a7, bb, rfl, rfl, ky9, kp9, kq9, below_t5 HBU.out hb9⟩
      case rest =>
        obtain ⟨y, p, q, a0, a1, a2, a3, a4, a5, a6, a7, bb, h11, h12, ky, kp, kq, hbw⟩ := hcut.out
        subst h11 h12
        have cy9 := ky.cell 9
        have cy10 := ky.cell 10
        simp at cy9 cy10
        have ylt := ky.lt
        have kk := KC.out _ hbw
        have c9 := kk.cell 9
        have c10 := kk.cell 10
        simp at c9 c10
        have xlt := kk.lt
        have t0 : ((nb : Int) != (nb : Int)) = false := by simp
        have HP9 := hide kp
        have HQ9 := hide kq
        have HBW9 := hide hbw
        clear hcut ky kp kq hbw kk
        go_wp2_with fail
        go_loopw [13] (fun vi wr => ∃ (k q' : Nat), vi = .int .i64 k ∧ wr = wc.drewN q' ∧ Hid (k ≤ nb)) (fun vi _ => nb - (intOf vi).toNat)
        case atStart => exact ⟨0, 0, rfl, rfl, hide (by omega)⟩
        case round =>
          obtain ⟨k, q', rfl, rfl, HK⟩ := hrel
          have hk := HK.out
          have hk0 : (0 : Int) ≤ (k : Int) := by omega
          clear HK
          have HB9 := hide (below_drewN HBW9.out q')
          by_cases hlt : k < nb
          case neg =>
            have hlt' : ¬ (k : Int) < (nb : Int) := by omega
            clear hlt hk cy9 cy10 c9 c10
            generalize wc.drewN q' = w9 at HB9 ⊢
            go_wp2_with fail
            refine (CWK.out _).mono ?_
            rintro e w10 ⟨rfl, hb⟩
            have HB10 := hide (below_t5 HB9.out hb)
            clear hb
            go_wp2_with fail
            go_ret
            exact ⟨rfl, below_t5 HB.out HB10.out⟩
          have hlt' : (k : Int) < (nb : Int) := by omega
          obtain ⟨J, hJ⟩ : ∃ J, min k (h - 1) = J := ⟨_, rfl⟩
          have hJ1 : J < nb := by have := HH.out; omega
          have hJ' : min (k : Int) ((h : Int) - 1) = (J : Int) := by have := HH.out; omega
          have hJ2 : (J : Int) < (nb : Int) := by omega
          have hJ0 : (0 : Int) ≤ (J : Int) := by omega
          have p0 := HP9.out.cell k
          rw [arr_at _ _ _ _ hlt, if_pos hlt] at p0
          unfold shF at p0
          rw [hJ] at p0
          obtain ⟨pb, po, hpa, hpl, hpc⟩ : ∃ b o, aa = some ⟨b, o, none⟩ ∧ b < w.heap.size ∧ ∀ i, i < ad.length → w.cell? ⟨b, o + i, none⟩ = some (.int .i64 (ad.getD i 0)) := by
            rcases HM.out.la with hz | hz
            · have := HM.out.hna
              simp only at hz this
              rw [hz] at this
              simp at this
              omega
            · exact hz
          obtain ⟨qb, qo, hqa, hql, hqc⟩ : ∃ b o, ab = some ⟨b, o, none⟩ ∧ b < w.heap.size ∧ ∀ i, i < be.length → w.cell? ⟨b, o + i, none⟩ = some (.int .i64 (be.getD i 0)) := by
            rcases HM.out.lb with hz | hz
            · have := HM.out.hnb
              simp only at hz this
              rw [hz] at this
              simp at this
              omega
            · exact hz
          subst hpa hqa
          have hww := below_t5 HB.out HBW9.out
          have p1 : wc.cell? ⟨pb, po + J, none⟩ = some (.int .i64 (ad.getD J 0)) := by
            rw [hww.cell (p := ⟨pb, po + J, none⟩) hpl]
            exact hpc J (by have := HM.out.hna; simp only at this; omega)
          have q0 : wc.cell? ⟨q, k, none⟩ = some (.int .i64 (be.getD k 0)) := by
            have := ints_lst HQ9.out
            rcases this with hz | ⟨b9, o9, e9, _, h9⟩
            · have := HM.out.hnb
              simp only at this
              rw [hz] at this
              simp at this
              omega
            · injection e9 with e9
              injection e9 with e9 e8
              subst e9 e8
              have := h9 k (by have := HM.out.hnb; simp only at this; omega)
              rw [Nat.zero_add] at this
              exact this
          have q1 : wc.cell? ⟨qb, qo + k, none⟩ = some (.int .i64 (be.getD k 0)) := by
            rw [hww.cell (p := ⟨qb, qo + k, none⟩) hql]
            exact hqc k (by have := HM.out.hnb; simp only at this; omega)
          have hpl' : pb < wc.heap.size := Nat.lt_of_lt_of_le hpl hww.size
          have hql' : qb < wc.heap.size := Nat.lt_of_lt_of_le hql hww.size
          have plt := HP9.out.lt
          have qlt := HQ9.out.lt
          generalize ad.getD J 0 = A9 at p0 p1
          generalize be.getD k 0 = B9 at q0 q1
          have hAA : (A9 != A9) = false := by simp
          have hBB : (B9 != B9) = false := by simp
          clear hpc hqc hww hJ hJ1 hlt hk HB9 hpl hql
          go_wp2_with fail
          go_quiet (fail)
          go_wp2_with fail
          go_roundw
          case rel => exact ⟨k + 1, _, by go_num, rfl, hide (by omega)⟩
          case measure => simp [intOf]; omega
end Go.Proofs.Ytkdnoemakclmdaa
