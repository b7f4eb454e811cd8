/-
  What the reference's Emit answers.
-/
import Derived.Test.YthhhepbflggojaaDoorE15H
import Derived.Test.YthhhepbflggojaaDoorE15Kr
import Derived.Deep.RegionHeld3
namespace Go.Proofs.YthhhepbflggojaaDoor.E15
open Go.RowKit Go.Deep
set_option linter.unusedVariables false
set_option linter.unusedSimpArgs false
set_option maxRecDepth 8000

theorem rdec_any (f : Nat) (h : f < 100) (w : World) : Calls Tryd.prog 24 #[.int .i64 f] w fun e w' => e = .returned (.string ⟨(Lib.decDigits f).toArray⟩) ∧ Below w.heap.size w w' := by
  have := D2.dec_any 1 f (by omega) (by omega) (by omega) w
  rw [D2.decF_eq 1 f (by omega)] at this
  exact this
theorem bs_eq15 {P : ByteArray} {l : List UInt8} (h : P.data.toList = l) : P = ⟨l.toArray⟩ := by
  cases P with | mk d => cases d with | mk t => simp at h; rw [h]
/- a text is put behind a row, whatever has been made since -/
theorem put_later {B : Nat} {W : World} {v : Value} {F : List UInt8} (S : ByteArray) (h : BRow W B v F) (hB : B ≤ W.heap.size) (hl : F.length + S.size ≤ 140737488355328) (wz : World) (hz : Below W.heap.size W wz) :
    ∃ v' w', (Builtin.append_ #[43, 9] 43 #[v, .string S]).run Tryd.prog wz = .ok v' w' ∧ BRow w' B v' (F ++ S.data.toList) ∧ KB B wz w' :=
  app_s3 S (h.later hz) (Nat.le_trans hB hz.size) hl
abbrev headT (f : Nat) (s x y : Int) : List UInt8 := [66, 84, 10, 47, 70] ++ Lib.decDigits f ++ [32] ++ numT s ++ [32, 84, 102, 10, 49, 32, 48, 32, 48, 32, 49, 32] ++ numT x ++ [32] ++ numT y ++ [32, 84, 109, 10, 60]
theorem show_cut (f : Nat) (s x y : Int) (gs : List Int) (r0 r1 r2 r3 : Int) : mkT ⟨1, (f : Int), s, x, y, gs, r0, r1, r2, r3⟩ = headT f s x y ++ gs.flatMap g4 ++ [62, 32, 84, 106, 10, 69, 84, 10] := by
  unfold mkT showT headT fontT tmT tjT gsT
  simp
set_option maxHeartbeats 16000000 in
theorem remit_any (a : Option Addr) (n c : Nat) (ms : List Mk) (w : World) (hn : ms.length = n) (h1 : n ≤ 1000000) (hg : ∀ m ∈ ms, m.gs.length ≤ 1048576) (hL : MLst w a ms) (hG : D2.Glo w) :
    Calls Tryd.prog 14 #[.slice a n c] w (EmR ms w) := by
  have C := hide (rcheck_any a n c ms w hn h1 hg hL)
  have h5 : (n : Int) ≤ 1000000 := by omega
  have Hn := hide hn
  have HG := hide hg
  have HL := hide hL
  have HGl := hide hG
  clear hn hg hL hG h1
  cases hcb : chkB ms
  · unfold chkV at C
    rw [hcb] at C
    simp only [if_false, Bool.false_eq_true] at C
    have HE := hide (fun (w' : World) (h : Below w.heap.size w w') => emR_bad hcb h)
    clear hcb
    go_enter Tryd.func14, Tryd.ntmps14
    go_wp2_with fail
    refine C.out.mono ?_
    rintro e w1 ⟨rfl, hb⟩
    have HB := hide hb
    clear hb
    go_wp2_with fail
    go_ret2
    exact HE.out _ HB.out
  unfold chkV at C
  rw [hcb] at C
  simp only [if_true] at C
  have HOK := hide (fun (w' : World) (hl : (emT ms).length ≤ 1048576) (h : Below w.heap.size w w') => emR_ok hcb hl h)
  have HLO := hide (fun (w' : World) (hl : 1048576 < (emT ms).length) (h : Below w.heap.size w w') => emR_long hcb hl h)
  have HON := hide (fun m (hm : m ∈ ms) => chk_one ms 0 (by have := hcb; unfold chkB at this; rw [Bool.and_eq_true] at this; exact this.2) m hm)
  clear hcb
  go_enter Tryd.func14, Tryd.ntmps14
  go_wp2_with fail
  refine C.out.mono ?_
  rintro e w1 ⟨rfl, hb⟩
  have HB := hide hb
  clear hb C
  go_wp2_with fail
  go_loopw [4, 5] (fun vb vi wr => ∃ (k : Nat), vi = .int .i64 k ∧ Hid (k ≤ n ∧ Below w.heap.size w wr ∧ BRow wr w.heap.size vb (emT (ms.take k)) ∧ (emT (ms.take k)).length ≤ 1048576)) (fun _ vi _ => n - (intOf vi).toNat)
  case atStart => exact ⟨0, rfl, hide ⟨by omega, HB.out, World.ownsRow_nil _ _ _ _, by simp [emT]⟩⟩
  case round =>
    clear HB
    obtain ⟨k, rfl, HR⟩ := hrel
    obtain ⟨hk, hb, hrow, hlen⟩ := HR.out
    have hk0 : (0 : Int) ≤ (k : Int) := by omega
    clear HR
    by_cases hlt : k < n
    case neg =>
      have hlt' : ¬ (k : Int) < (n : Int) := by omega
      rw [List.take_of_length_le (by rw [Hn.out]; omega)] at hrow hlen
      have hcv := hrow.text
      have HE := hide (HOK.out wr hlen hb)
      generalize (⟨(emT ms).toArray⟩ : ByteArray) = T at hcv HE
      clear hrow hlen hb HOK HLO HON
      go_wp2_with fail
      go_ret2
      exact HE.out
    have hlt' : (k : Int) < (n : Int) := by omega
    have hl := Hn.out
    have hmem := gd_mem (show k < ms.length by omega)
    have hgs := HG.out _ hmem
    have hone := HON.out _ hmem
    have htk := emT_take ms k (by omega)
    have hle := emT_le ms (k + 1)
    rw [htk, List.length_append] at hle
    obtain ⟨mb, off, rfl, hbl, ga, gc, hM⟩ := HL.out.some (show k < ms.length by omega)
    have hM2 := hM.below hbl hb
    have hbl2 : mb < wr.heap.size := Nat.lt_of_lt_of_le hbl hb.size
    have HLS := hide (fun (u : World) (hu : Below w.heap.size w u) => hM.lst.below hu)
    generalize ms.getD k m0 = m at *
    clear hM
    obtain ⟨c0, c1, c2, c3, c4, c5, c6, c7, c8, c9, _⟩ := hM2
    obtain ⟨gn, hgn⟩ : ∃ gn, m.gs.length = gn := ⟨_, rfl⟩
    rw [hgn] at c5 hgs
    have hcs := one_cases hone
    have HTK := hide htk
    have HLE := hide hle
    have HLN := hide hlen
    have HGN := hide hgn
    have HGG := hide hgs
    have HKN := hide (show k + 1 ≤ n by omega)
    obtain ⟨K, f, s, x, y, gs, r0, r1, r2, r3⟩ := m
    simp only at c0 c1 c2 c3 c4 c5 c6 c7 c8 c9 hcs HGN HLS
    have ha := (Below.refl wr.heap.size wr).alloc (Nat.le_refl _) (.cells #[.int .i64 K, .int .i64 f, .int .i64 s, .int .i64 x, .int .i64 y, .slice ga gn gc, .int .i64 r0, .int .i64 r1, .int .i64 r2, .int .i64 r3] 38)
    have CX := hide (Blk.new wr #[.int .i64 K, .int .i64 f, .int .i64 s, .int .i64 x, .int .i64 y, .slice ga gn gc, .int .i64 r0, .int .i64 r1, .int .i64 r2, .int .i64 r3] 38)
    have HBX := hide (below_t5 hb ha)
    have HRX := hide (hrow.later ha)
    clear hmem hone hgs htk hle hlen hl hgn HON HOK hb hrow ha hk hlt
    go_upto_region 8 with (fail)
    obtain ⟨Rb, hRb⟩ : ∃ Rb, wr.heap.size = Rb := ⟨_, rfl⟩
    rw [hRb] at CX
    generalize wr.alloc (.cells #[.int .i64 K, .int .i64 f, .int .i64 s, .int .i64 x, .int .i64 y, .slice ga gn gc, .int .i64 r0, .int .i64 r1, .int .i64 r2, .int .i64 r3] 38) = X at CX HBX HRX ⊢
    simp only [hRb]
    clear c0 c1 c2 c3 c4 c5 c6 c7 c8 c9 hRb hbl hbl2
    have c0 := CX.out.cell 0
    have cl := CX.out.lt
    simp only [List.getElem?_toArray, List.getElem?_cons_succ, List.getElem?_cons_zero] at c0
    rcases hcs with ⟨rfl, ⟨hf0, hf1⟩, hz⟩ | ⟨rfl, hm, hgz⟩ | ⟨rfl, hm, hgz⟩ | ⟨rfl, hgz⟩
    rotate_left
    · obtain ⟨BT, hBT⟩ : ∃ BT : ByteArray, ⟨(bxT r0 r1 r2 r3).toArray⟩ = BT := ⟨_, rfl⟩
      have hBd : BT.data.toList = bxT r0 r1 r2 r3 := by rw [← hBT]
      have hBs : BT.size ≤ 200 := by rw [Lib.size_eq, hBd]; exact bxT_len _ _ _ _
      have CB := hide (fun (u : World) (hu : D2.Glo u) => rbox_any r0 r1 r2 r3 u hu hm)
      rw [hBT] at CB
      obtain ⟨P, c1, d1, s1⟩ := cat15 BT ⟨#[102, 10]⟩ _ 2 rfl rfl (by omega)
      have hP : P.data.toList = mkT ⟨2, f, s, x, y, gs, r0, r1, r2, r3⟩ := by rw [d1, hBd]; unfold mkT; simp
      have HPS := hide (show P.size ≤ 300 by omega)
      have c6 := CX.out.cell 6
      have c7 := CX.out.cell 7
      have c8 := CX.out.cell 8
      have c9 := CX.out.cell 9
      simp only [List.getElem?_toArray, List.getElem?_cons_succ, List.getElem?_cons_zero] at c6 c7 c8 c9
      rw [← hP] at HTK HLE
      have HGX := hide (HGl.out.below HBX.out)
      clear hP hBd hBs hBT d1 s1 hm HLS
      go_wp2_with fail
      refine (CB.out _ HGX.out).mono ?_
      rintro e X2 ⟨rfl, h2⟩
      obtain ⟨v1, W1, hr1, hrow1, hkb1⟩ := put_later (W := X) P HRX.out (by have := HBX.out.size; exact this) (by have := HLN.out; have := HPS.out; omega) X2 h2
      have HR1 := hide hr1
      obtain ⟨MT, hmt⟩ : ∃ MT, P.data.toList = MT := ⟨_, rfl⟩
      rw [hmt] at HTK HLE hrow1
      have HROW := hide hrow1
      have HBL := hide (below_t5 HBX.out h2 |>.trans hkb1.below)
      clear h2 hr1 hrow1 hkb1 hmt HRX CX c6 c7 c8 c9 HGX
      go_upto_region 21 with (at_builtin; refine Lib.wpList_append_run _ rfl _ _ _ _ rfl _ _ rfl rfl _ _ HR1.out ?_)
      obtain ⟨va, vc, hsh⟩ := HROW.out.shape
      obtain ⟨q, hq⟩ : ∃ q, (emT (ms.take k) ++ MT).length = q := ⟨_, rfl⟩
      rw [hq] at hsh
      have HQ := hide hq
      have HSH := hide hsh
      clear hq
      rw [hsh]
      by_cases hql : q ≤ 1048576
      case neg =>
        have hqi : (1048576 : Int) < (q : Int) := by omega
        have HE := hide (HLO.out W1 (by have := HLE.out; have := HQ.out; rw [List.length_append] at this; omega) HBL.out)
        clear HLO hsh hql
        go_wp2_with fail
        (try rw [Exit.noGoto_ret])
        go_ret2
        exact HE.out
      have hqi : ¬ (1048576 : Int) < (q : Int) := by omega
      have HFIN := hide (show k + 1 ≤ n ∧ Below w.heap.size w W1 ∧ BRow W1 w.heap.size (.slice va q vc) (emT (ms.take (k + 1))) ∧ (emT (ms.take (k + 1))).length ≤ 1048576 from ⟨HKN.out, HBL.out, by rw [HTK.out, ← HSH.out]; exact HROW.out, by rw [HTK.out, HQ.out]; exact hql⟩)
      clear hql HLO hsh
      go_wp2_with fail
      go_roundw
      case rel => exact ⟨k + 1, by go_num, HFIN⟩
      case measure => simp [intOf]; omega
    · obtain ⟨BT, hBT⟩ : ∃ BT : ByteArray, ⟨(bxT r0 r1 r2 r3).toArray⟩ = BT := ⟨_, rfl⟩
      have hBd : BT.data.toList = bxT r0 r1 r2 r3 := by rw [← hBT]
      have hBs : BT.size ≤ 200 := by rw [Lib.size_eq, hBd]; exact bxT_len _ _ _ _
      have CB := hide (fun (u : World) (hu : D2.Glo u) => rbox_any r0 r1 r2 r3 u hu hm)
      rw [hBT] at CB
      obtain ⟨P0, c0', d0, s0⟩ := cat15 ⟨#[113, 10]⟩ BT 2 _ rfl rfl (by omega)
      obtain ⟨P, c1, d1, s1⟩ := cat15 P0 ⟨#[87, 32, 110, 10]⟩ _ 4 s0 rfl (by omega)
      have hP : P.data.toList = mkT ⟨3, f, s, x, y, gs, r0, r1, r2, r3⟩ := by rw [d1, d0, hBd]; unfold mkT; simp
      have HPS := hide (show P.size ≤ 300 by omega)
      have c6 := CX.out.cell 6
      have c7 := CX.out.cell 7
      have c8 := CX.out.cell 8
      have c9 := CX.out.cell 9
      simp only [List.getElem?_toArray, List.getElem?_cons_succ, List.getElem?_cons_zero] at c6 c7 c8 c9
      rw [← hP] at HTK HLE
      have HGX := hide (HGl.out.below HBX.out)
      clear hP hBd hBs hBT d1 s1 hm HLS d0 s0
      go_wp2_with fail
      refine (CB.out _ HGX.out).mono ?_
      rintro e X2 ⟨rfl, h2⟩
      obtain ⟨v1, W1, hr1, hrow1, hkb1⟩ := put_later (W := X) P HRX.out (by have := HBX.out.size; exact this) (by have := HLN.out; have := HPS.out; omega) X2 h2
      have HR1 := hide hr1
      obtain ⟨MT, hmt⟩ : ∃ MT, P.data.toList = MT := ⟨_, rfl⟩
      rw [hmt] at HTK HLE hrow1
      have HROW := hide hrow1
      have HBL := hide (below_t5 HBX.out h2 |>.trans hkb1.below)
      clear h2 hr1 hrow1 hkb1 hmt HRX CX c6 c7 c8 c9 HGX
      go_upto_region 21 with (at_builtin; refine Lib.wpList_append_run _ rfl _ _ _ _ rfl _ _ rfl rfl _ _ HR1.out ?_)
      obtain ⟨va, vc, hsh⟩ := HROW.out.shape
      obtain ⟨q, hq⟩ : ∃ q, (emT (ms.take k) ++ MT).length = q := ⟨_, rfl⟩
      rw [hq] at hsh
      have HQ := hide hq
      have HSH := hide hsh
      clear hq
      rw [hsh]
      by_cases hql : q ≤ 1048576
      case neg =>
        have hqi : (1048576 : Int) < (q : Int) := by omega
        have HE := hide (HLO.out W1 (by have := HLE.out; have := HQ.out; rw [List.length_append] at this; omega) HBL.out)
        clear HLO hsh hql
        go_wp2_with fail
        (try rw [Exit.noGoto_ret])
        go_ret2
        exact HE.out
      have hqi : ¬ (1048576 : Int) < (q : Int) := by omega
      have HFIN := hide (show k + 1 ≤ n ∧ Below w.heap.size w W1 ∧ BRow W1 w.heap.size (.slice va q vc) (emT (ms.take (k + 1))) ∧ (emT (ms.take (k + 1))).length ≤ 1048576 from ⟨HKN.out, HBL.out, by rw [HTK.out, ← HSH.out]; exact HROW.out, by rw [HTK.out, HQ.out]; exact hql⟩)
      clear hql HLO hsh
      go_wp2_with fail
      go_roundw
      case rel => exact ⟨k + 1, by go_num, HFIN⟩
      case measure => simp [intOf]; omega
    · have hMT : mkT ⟨4, f, s, x, y, gs, r0, r1, r2, r3⟩ = (⟨#[81, 10]⟩ : ByteArray).data.toList := by unfold mkT; simp
      rw [hMT] at HTK HLE
      have HW := hide (put_later (W := X) ⟨#[81, 10]⟩ HRX.out (by have := HBX.out.size; exact this) (by have := HLN.out; show _ + 2 ≤ _; omega) X (Below.refl _ _))
      obtain ⟨v1, W1, hr1, hrow1, hkb1⟩ := HW.out
      have HR1 := hide hr1
      obtain ⟨MT, hmt⟩ : ∃ MT, (⟨#[81, 10]⟩ : ByteArray).data.toList = MT := ⟨_, rfl⟩
      rw [hmt] at HTK HLE hrow1
      have HROW := hide hrow1
      have HBL := hide (HBX.out.trans hkb1.below)
      clear HW hr1 hrow1 hkb1 hMT hmt HRX CX HLS
      go_upto_region 21 with (at_builtin; refine Lib.wpList_append_run _ rfl _ _ _ _ rfl _ _ rfl rfl _ _ HR1.out ?_)
      obtain ⟨va, vc, hsh⟩ := HROW.out.shape
      obtain ⟨q, hq⟩ : ∃ q, (emT (ms.take k) ++ MT).length = q := ⟨_, rfl⟩
      rw [hq] at hsh
      have HQ := hide hq
      have HSH := hide hsh
      clear hq
      rw [hsh]
      by_cases hql : q ≤ 1048576
      case neg =>
        have hqi : (1048576 : Int) < (q : Int) := by omega
        have HE := hide (HLO.out W1 (by have := HLE.out; have := HQ.out; rw [List.length_append] at this; omega) HBL.out)
        clear HLO hsh hql
        go_wp2_with fail
        (try rw [Exit.noGoto_ret])
        go_ret2
        exact HE.out
      have hqi : ¬ (1048576 : Int) < (q : Int) := by omega
      have HFIN := hide (show k + 1 ≤ n ∧ Below w.heap.size w W1 ∧ BRow W1 w.heap.size (.slice va q vc) (emT (ms.take (k + 1))) ∧ (emT (ms.take (k + 1))).length ≤ 1048576 from ⟨HKN.out, HBL.out, by rw [HTK.out, ← HSH.out]; exact HROW.out, by rw [HTK.out, HQ.out]; exact hql⟩)
      clear hql HLO hsh
      go_wp2_with fail
      go_roundw
      case rel => exact ⟨k + 1, by go_num, HFIN⟩
      case measure => simp [intOf]; omega
    · obtain ⟨f, rfl⟩ : ∃ f' : Nat, f = (f' : Int) := ⟨f.toNat, by omega⟩
      have hf : f < 100 := by omega
      have HZ0 := hide hz
      clear hz hf0 hf1
      obtain ⟨FV, hFV⟩ : ∃ FV : Int → ByteArray, FV = fun x => ⟨(numT x).toArray⟩ := ⟨_, rfl⟩
      have hFd : ∀ x, (FV x).data.toList = numT x := fun x => by rw [hFV]
      have hFs : ∀ x, (FV x).size ≤ 40 := fun x => by rw [Lib.size_eq, hFd]; exact numT_len x
      obtain ⟨DF, hDF⟩ : ∃ DF : ByteArray, ⟨(Lib.decDigits f).toArray⟩ = DF := ⟨_, rfl⟩
      have hDd : DF.data.toList = Lib.decDigits f := by rw [← hDF]
      have hDs : DF.size ≤ 8 := by rw [Lib.size_eq, hDd]; exact dec_len99 f hf
      have f0 := hFs s
      have f1 := hFs x
      have f2 := hFs y
      obtain ⟨P0, k0, d0, s0⟩ := cat15 ⟨#[66, 84, 10, 47, 70]⟩ DF 5 DF.size rfl rfl (by omega)
      obtain ⟨P1, k1, d1, s1⟩ := cat15 P0 ⟨#[32]⟩ _ 1 s0 rfl (by omega)
      obtain ⟨P2, k2, d2, s2⟩ := cat15 P1 (FV s) _ _ s1 rfl (by omega)
      obtain ⟨P3, k3, d3, s3⟩ := cat15 P2 ⟨#[32, 84, 102, 10, 49, 32, 48, 32, 48, 32, 49, 32]⟩ _ 12 s2 rfl (by omega)
      obtain ⟨P4, k4, d4, s4⟩ := cat15 P3 (FV x) _ _ s3 rfl (by omega)
      obtain ⟨P5, k5, d5, s5⟩ := cat15 P4 ⟨#[32]⟩ _ 1 s4 rfl (by omega)
      obtain ⟨P6, k6, d6, s6⟩ := cat15 P5 (FV y) _ _ s5 rfl (by omega)
      obtain ⟨P7, k7, d7, s7⟩ := cat15 P6 ⟨#[32, 84, 109, 10, 60]⟩ _ 5 s6 rfl (by omega)
      have hP : P7.data.toList = headT f s x y := by
        rw [d7, d6, d5, d4, d3, d2, d1, d0, hFd, hFd, hFd, hDd]
      have HPS := hide (show P7.size ≤ 400 by omega)
      have CN : Hid (∀ (z : Int) (u : World), Below w.heap.size w u → Calls Tryd.prog 25 #[.int .i64 z] u fun e w' => e = .returned (.string (FV z)) ∧ Below u.heap.size u w') := hide (fun z u hu => by rw [hFV]; exact rnum_any z u (HGl.out.below hu))
      have CD : Hid (∀ u, Calls Tryd.prog 24 #[.int .i64 f] u fun e w' => e = .returned (.string DF) ∧ Below u.heap.size u w') := hide (fun u => by rw [← hDF]; exact rdec_any f hf u)
      rw [show_cut] at HTK HLE
      have HSP := hide hP
      have HAP := hide (fun (wz : World) (hz : Below X.heap.size X wz) => put_later (W := X) P7 HRX.out (by have := HBX.out.size; exact this) (by have := HLN.out; have := HPS.out; omega) wz hz)
      clear hP d0 d1 d2 d3 d4 d5 d6 d7 s0 s1 s2 s3 s4 s5 s6 s7 hFs hFd hFV f0 f1 f2 hDs hDd hDF
      have HX := hide (Below.refl X.heap.size X)
      have HK := CX
      have KS : Hid (∀ z, Blk z Rb #[.int .i64 1, .int .i64 f, .int .i64 s, .int .i64 x, .int .i64 y, .slice ga gn gc, .int .i64 r0, .int .i64 r1, .int .i64 r2, .int .i64 r3] 38 → Rb < z.heap.size ∧ z.cell? ⟨Rb, 1, none⟩ = some (.int .i64 f) ∧ z.cell? ⟨Rb, 2, none⟩ = some (.int .i64 s) ∧ z.cell? ⟨Rb, 3, none⟩ = some (.int .i64 x) ∧ z.cell? ⟨Rb, 4, none⟩ = some (.int .i64 y)) := hide fun z hz => ⟨hz.lt, by simpa using hz.cell 1, by simpa using hz.cell 2, by simpa using hz.cell 3, by simpa using hz.cell 4⟩
      go_upto_region 11 with (fail)
      go_region_held3 (fun z => Rb < z.heap.size ∧ z.cell? ⟨Rb, 1, none⟩ = some (.int .i64 f) ∧ z.cell? ⟨Rb, 2, none⟩ = some (.int .i64 s) ∧ z.cell? ⟨Rb, 3, none⟩ = some (.int .i64 x) ∧ z.cell? ⟨Rb, 4, none⟩ = some (.int .i64 y)) ((refine KS.out _ ?_; repeat (first | exact HK.out | refine blk_d ?_ | refine blk_a ?_ _))) ((first | (go_at_call 25; refine (CN.out _ _ (below_t5 HBX.out (by repeat (first | exact HX.out | refine bdr ?_ | refine ba2 ?_ _)))).mono ?_; rintro e wz ⟨rfl, hz⟩; have HX0 := HX; have HK0 := HK; replace HX := hide (show Below X.heap.size X wz from below_t5 (by repeat (first | exact HX0.out | refine bdr ?_ | refine ba2 ?_ _)) hz); replace HK := hide (show Blk wz Rb #[.int .i64 1, .int .i64 f, .int .i64 s, .int .i64 x, .int .i64 y, .slice ga gn gc, .int .i64 r0, .int .i64 r1, .int .i64 r2, .int .i64 r3] 38 from Blk.below (by repeat (first | exact HK0.out | refine blk_d ?_ | refine blk_a ?_ _)) hz); clear HX0 HK0 hz) | (go_at_call 24; refine (CD.out _).mono ?_; rintro e wz ⟨rfl, hz⟩; have HX0 := HX; have HK0 := HK; replace HX := hide (show Below X.heap.size X wz from below_t5 (by repeat (first | exact HX0.out | refine bdr ?_ | refine ba2 ?_ _)) hz); replace HK := hide (show Blk wz Rb #[.int .i64 1, .int .i64 f, .int .i64 s, .int .i64 x, .int .i64 y, .slice ga gn gc, .int .i64 r0, .int .i64 r1, .int .i64 r2, .int .i64 r3] 38 from Blk.below (by repeat (first | exact HK0.out | refine blk_d ?_ | refine blk_a ?_ _)) hz); clear HX0 HK0 hz) | (obtain ⟨v1, W1, hr1, hrow1, hkb1⟩ := HAP.out _ (by repeat (first | exact HX.out | refine bdr ?_ | refine ba2 ?_ _)); have HR1 := hide hr1; have HROW0 := hide hrow1; have HBL0 := hide ((below_t5 HBX.out (by repeat (first | exact HX.out | refine bdr ?_ | refine ba2 ?_ _))).trans hkb1.below); have HK1 := hide (show Blk W1 Rb #[.int .i64 1, .int .i64 f, .int .i64 s, .int .i64 x, .int .i64 y, .slice ga gn gc, .int .i64 r0, .int .i64 r1, .int .i64 r2, .int .i64 r3] 38 from Blk.nb (by repeat (first | exact HK.out | refine blk_d ?_ | refine blk_a ?_ _)) hkb1.nb tm_ne); clear hr1 hrow1 hkb1; refine step_append_run _ (by rfl) _ _ _ _ (by rfl) _ _ (by rfl) (by rfl) _ _ HR1.out ?_; replace HK := HK1; clear HK1)))
      clear CN CD HAP KS k0 k1 k2 k3 k4 k5 k6 k7
      go_wp2_with fail
      go_loopw [4, 7] (fun vb vj wq => ∃ (j : Nat), vj = .int .i64 j ∧ Hid (j ≤ gn ∧ Below w.heap.size w wq ∧ BRow wq w.heap.size vb (emT (ms.take k) ++ P7.data.toList ++ (gs.take j).flatMap g4) ∧ Blk wq Rb #[.int .i64 1, .int .i64 f, .int .i64 s, .int .i64 x, .int .i64 y, .slice ga gn gc, .int .i64 r0, .int .i64 r1, .int .i64 r2, .int .i64 r3] 38)) (fun _ vj _ => gn - (intOf vj).toNat)
      case atStart => exact ⟨0, rfl, hide ⟨by omega, HBL0.out, by simpa using HROW0.out, HK.out⟩⟩
      case round =>
        clear HBL0 HROW0 HK HX HRX CX
        obtain ⟨j, rfl, HV⟩ := hrel
        obtain ⟨hj, hbq, hrq, hkq⟩ := HV.out
        have hj0 : (0 : Int) ≤ (j : Int) := by omega
        have c5 := hkq.cell 5
        have c5l := hkq.lt
        simp only [List.getElem?_toArray, List.getElem?_cons_succ, List.getElem?_cons_zero] at c5
        clear HV
        by_cases hjl : j < gn
        case neg =>
          have hjl' : ¬ (j : Int) < (gn : Int) := by omega
          rw [show gs.take j = gs from List.take_of_length_le (by rw [HGN.out]; omega)] at hrq
          obtain ⟨v1, W1, hr1, hrow1, hkb1⟩ := put_later (W := wr) ⟨#[62, 32, 84, 106, 10, 69, 84, 10]⟩ hrq hbq.size (by rw [List.length_append, List.length_append, g4_len, HGN.out, ← Lib.size_eq]; have := HLN.out; have := HPS.out; have := HGG.out; show _ + 8 ≤ _; omega) wr (Below.refl _ _)
          have HR1 := hide hr1
          obtain ⟨MT, hmt⟩ : ∃ MT, headT f s x y ++ gs.flatMap g4 ++ [62, 32, 84, 106, 10, 69, 84, 10] = MT := ⟨_, rfl⟩
          have HROW : Hid (BRow W1 w.heap.size v1 (emT (ms.take k) ++ MT)) := hide (by rw [← hmt, ← HSP.out]; rw [← List.append_assoc, ← List.append_assoc]; exact hrow1)
          rw [hmt] at HTK HLE
          have HBL := hide (hbq.trans hkb1.below)
          clear hr1 hrow1 hkb1 hmt hrq hkq hbq hj hjl HSP HLS HZ0
          go_upto_region 21 with (at_builtin; refine Lib.wpList_append_run _ rfl _ _ _ _ rfl _ _ rfl rfl _ _ HR1.out ?_)
          obtain ⟨va, vc, hsh⟩ := HROW.out.shape
          obtain ⟨q, hq⟩ : ∃ q, (emT (ms.take k) ++ MT).length = q := ⟨_, rfl⟩
          rw [hq] at hsh
          have HQ := hide hq
          have HSH := hide hsh
          clear hq
          rw [hsh]
          by_cases hql : q ≤ 1048576
          case neg =>
            have hqi : (1048576 : Int) < (q : Int) := by omega
            have HE := hide (HLO.out W1 (by have := HLE.out; have := HQ.out; rw [List.length_append] at this; omega) HBL.out)
            clear HLO hsh hql
            go_wp2_with fail
            (try rw [Exit.noGoto_ret])
            go_ret2
            exact HE.out
          have hqi : ¬ (1048576 : Int) < (q : Int) := by omega
          have HFIN := hide (show k + 1 ≤ n ∧ Below w.heap.size w W1 ∧ BRow W1 w.heap.size (.slice va q vc) (emT (ms.take (k + 1))) ∧ (emT (ms.take (k + 1))).length ≤ 1048576 from ⟨HKN.out, HBL.out, by rw [HTK.out, ← HSH.out]; exact HROW.out, by rw [HTK.out, HQ.out]; exact hql⟩)
          clear hql HLO hsh
          go_wp2_with fail
          go_roundw
          case rel => exact ⟨k + 1, by go_num, HFIN⟩
          case measure => simp [intOf]; omega
        have hjl' : (j : Int) < (gn : Int) := by omega
        have hgl := HGN.out
        have hgi : (gn : Int) ≤ 1048576 := by have := HGG.out; omega
        rcases HLS.out wr hbq with hz | ⟨b1, o1, rfl, hb1, hcell1⟩
        · rw [hz] at hgl; simp at hgl; omega
        have hc1 := hcell1 j (by omega)
        have hzj := HZ0.out (gs.getD j 0) (by rw [List.getD_eq_getElem?_getD, List.getElem?_eq_getElem (by omega)]; exact List.getElem_mem _)
        have htj := take_snoc gs j (by omega)
        generalize gs.getD j 0 = z at *
        have CT := hide (fun u => rtwo_any z u (by omega) (by omega))
        have hh := hexT_two z hzj.1 hzj.2
        obtain ⟨S2, hS2⟩ : ∃ S2 : ByteArray, ⟨[hiB z, loB z].toArray⟩ = S2 := ⟨_, rfl⟩
        have hSd : S2.data.toList = [hiB z, loB z] := by rw [← hS2]
        have CH := hide (fun u => rhex_any S2 u (by rw [Lib.size_eq, hSd]; simp))
        rw [hSd, hh] at CH
        rw [hS2] at CT
        obtain ⟨G, hG⟩ : ∃ G : ByteArray, ⟨(g4 z).toArray⟩ = G := ⟨_, rfl⟩
        have hGd : G.data.toList = g4 z := by rw [← hG]
        have hGs : G.size = 4 := by rw [Lib.size_eq, hGd]; rfl
        rw [hG] at CH
        have HTJ := hide (show (gs.take (j + 1)).flatMap g4 = (gs.take j).flatMap g4 ++ G.data.toList by rw [htj, List.flatMap_append, hGd]; simp)
        have HBQ := hide hbq
        have HRQ := hide hrq
        have HKQ := hide hkq
        have HJ1 := hide (show j + 1 ≤ gn by omega)
        have HLJ := hide (show ((gs.take j).flatMap g4).length ≤ 4 * gn by rw [g4_len, List.length_take]; omega)
        clear hbq hrq hkq hcell1 hzj htj hh hS2 hSd hG hGd hj hgl
        go_wp2_with fail
        refine (CT.out _).mono ?_
        rintro e w2 ⟨rfl, h2⟩
        have HB2 := hide h2
        clear h2
        go_wp2_with fail
        refine (CH.out _).mono ?_
        rintro e w3 ⟨rfl, h3⟩
        have hx := below_t5 HB2.out h3
        obtain ⟨v1, W1, hr1, hrow1, hkb1⟩ := put_later (W := wr) G HRQ.out HBQ.out.size (by rw [List.length_append, List.length_append, ← Lib.size_eq, hGs]; have := HLN.out; have := HPS.out; have := HGG.out; have := HLJ.out; omega) w3 hx
        have HR1 := hide hr1
        have HFJ := hide (show j + 1 ≤ gn ∧ Below w.heap.size w W1 ∧ BRow W1 w.heap.size v1 (emT (ms.take k) ++ P7.data.toList ++ (gs.take (j + 1)).flatMap g4) ∧ Blk W1 Rb #[.int .i64 1, .int .i64 f, .int .i64 s, .int .i64 x, .int .i64 y, .slice (some ⟨b1, o1, none⟩) gn gc, .int .i64 r0, .int .i64 r1, .int .i64 r2, .int .i64 r3] 38 from ⟨HJ1.out, (below_t5 HBQ.out hx).trans hkb1.below, by rw [HTJ.out, ← List.append_assoc]; exact hrow1, (HKQ.out.below hx).nb hkb1.nb tm_ne⟩)
        clear h3 hx hr1 hrow1 hkb1 hGs
        go_wp2_with (at_builtin; refine Lib.wpList_append_run _ rfl _ _ _ _ rfl _ _ rfl rfl _ _ HR1.out ?_)
        go_roundw
        case rel => exact ⟨j + 1, by go_num, HFJ⟩
        case measure => simp [intOf]; omega
end Go.Proofs.YthhhepbflggojaaDoor.E15
