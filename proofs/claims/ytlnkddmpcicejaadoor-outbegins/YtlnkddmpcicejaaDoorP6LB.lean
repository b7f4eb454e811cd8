/-
  The law OutBegins, walked.
-/
import Derived.Test.YtlnkddmpcicejaaDoorP6Bp
import Derived.Test.YtlnkddmpcicejaaDoorP6LM
namespace Go.Proofs.YtlnkddmpcicejaaDoor
open Go.RowKit Go.Deep
set_option linter.unusedVariables false

set_option maxRecDepth 8000 in
set_option maxHeartbeats 4000000 in
theorem outBegins_walk (l : List EP) (ea : Option Addr) (ec : Nat) (root : Int) (w : World) (hin : FileIn w l ea ec root) (hg : D2.Glo w) :
    Calls Tryd.prog 3 #[fv l ea ec root] w fun e w' => e = .returned (.bool true) ∧ Below w.heap.size w w' := by
  obtain ⟨⟨hF, hok⟩, hr1, hr2⟩ := hin
  have hal := (Below.refl w.heap.size w).alloc (Nat.le_refl _) (.cells (fbox l ea ec root) 24)
  have CL := hide (flarge_any l ea ec root _ (hF.below hal))
  have HF := hide hF
  have HOK := hide hok
  have HG := hide hg
  have HB0 := hide hal
  have HK0 := hide (Blk.new w (fbox l ea ec root) 24)
  have CW := hide (fun x (h : Below w.heap.size w x) => wakes6_any x (hg.below h))
  clear hF hok hg hal
  go_enter Tryd.func3, Tryd.ntmps3
  go_wp2_with fail
  refine CL.out.mono ?_
  rintro e w1 ⟨⟨r, rfl, hr⟩, h1⟩
  have hB1 := below_t5 HB0.out h1
  have HK1 := hide (HK0.out.below h1)
  have HB1 := hide hB1
  cases r
  case true =>
    have CW1 := hide (CW.out w1 hB1)
    clear h1 hB1 hr
    go_wp2_with (go_at_call 5; refine CW1.out.mono ?_; rintro e w2 ⟨rfl, h2⟩)
    go_ret
    exact ⟨rfl, below_t5 HB1.out h2⟩
  have hd2 := (hr rfl).2
  have CC := hide (fcopy_any l ea ec root w1 (HF.out.below hB1))
  have HD2 := hide hd2
  obtain ⟨⟨s0, s1⟩, _⟩ := HK1.out.two
  clear h1 hB1 hr hd2
  go_wp2_with fail
  refine CC.out.mono ?_
  rintro e w2 ⟨⟨eb, ed, rfl, hF2⟩, h2⟩
  have hB2 := below_t5 HB1.out h2
  have hin2 : FIn w2 l eb ed := hF2.sub (fresh_sub _ _)
  have HK2 := hide (HK1.out.below h2)
  have HB2 := hide hB2
  have CWr := hide (write_any l eb ed root w2 hin2 HOK.out (HG.out.below hB2))
  clear s0 s1 h2 hF2 hin2 hB2
  go_wp2_with fail
  refine CWr.out.mono ?_
  rintro e w3 ⟨rfl, h3⟩
  have hB3 := below_t5 HB2.out h3
  have HK3 := hide (HK2.out.below h3)
  have HB3 := hide hB3
  have CC3 := hide (fcopy_any l ea ec root w3 (HF.out.below hB3))
  obtain ⟨⟨s0, s1⟩, _⟩ := HK3.out.two
  clear h3 hB3
  go_wp2_with fail
  refine CC3.out.mono ?_
  rintro e w4 ⟨⟨eb4, ed4, rfl, hF4⟩, h4⟩
  have hB4 := below_t5 HB3.out h4
  have hin4 : FIn w4 l eb4 ed4 := hF4.sub (fresh_sub _ _)
  have HK4 := hide (HK3.out.below h4)
  have HB4 := hide hB4
  have COf := hide (offsets_any l eb4 ed4 root w4 hin4 HOK.out (HG.out.below hB4))
  clear s0 s1 h4 hF4 hin4 hB4
  go_wp2_with fail
  refine COf.out.mono ?_
  rintro e w5 ⟨⟨v5, rfl, hv5⟩, h5⟩
  have hB5 := below_t5 HB4.out h5
  have HK5 := hide (HK4.out.below h5)
  have HB5 := hide hB5
  obtain ⟨a5, c5, rfl, hl5, hc5, hd5⟩ := hv5.lst
  have HL5 := hide hl5
  have C4 := hide (fun x (hx : Below w5.heap.size w5 x) => CW.out x (below_t5 hB5 hx))
  obtain ⟨⟨s0, s1⟩, _⟩ := HK5.out.two
  have hl1 : (l.length : Int) ≤ 1256584717450 := by have h := HF.out.1.1.2; omega
  have hl0 : (0 : Int) ≤ (l.length : Int) := by omega
  have CCk := hide (rcheck_any l ea ec root w5 (HF.out.below hB5) HD2.out)
  clear h5 hB5 hv5 hl5 CL CC CC3 CWr COf
  have tE : (lyE l root != lyE l root) = false := by simp
  by_cases hE : lyE l root = 0
  case neg =>
    obtain ⟨hFn, hEc⟩ := lyE_badF hE
    have hZn := lyE_bad hE
    rw [hFn, hZn]
    have t1 : (lyE l root != 0) = true := by simpa using hE
    have t3 : (lyE l root == ckV l root) = true ∨ ((lyE l root == ckV l root) = false ∧ lyE l root = 2) := by
      by_cases h : lyE l root = ckV l root
      · exact Or.inl (by simpa using h)
      · exact Or.inr ⟨by simpa using h, hEc.resolve_left h⟩
    have t4 : (lyE l root == ckV l root) = true ∨ ((lyE l root == ckV l root) = false ∧ (lyE l root == 2) = true) := t3.imp id fun h => ⟨h.1, by simpa using h.2⟩
    clear hFn hEc hZn hE t3 HL5 hc5
    generalize lyE l root = E at *
    generalize ckV l root = R at *
    rcases t4 with t4 | ⟨t4, t5⟩
    all_goals
      go_wp2_with (first | (go_at_call 9; refine CCk.out.mono ?_; rintro e w6 ⟨rfl, h6⟩) | (go_at_call 5; refine (C4.out _ h6).mono ?_; rintro e w7 ⟨rfl, h7⟩))
      go_ret
      exact ⟨rfl, below_t5 HB5.out (below_t5 h6 h7)⟩
  obtain ⟨hzl, hFl, hat⟩ := ly_at hE
  have t1 : (lyE l root != 0) = false := by simpa using hE
  obtain ⟨T, hT⟩ : ∃ T : ByteArray, ⟨(lyF l root).toArray⟩ = T := ⟨_, rfl⟩
  rw [hT, hzl]
  rw [hzl] at hc5
  have t2 : (((l.length + 1 : Nat) : Int) != (l.length : Int) + 1) = false := by simp
  have HAT := hide hat
  have HT := hide hT
  have HZL := hide hzl
  have hn4 : (l.length : Int) ≤ 4096 := by have := lyZ_lenM l root; omega
  have hTs : (T.size : Int) ≤ 16777216 := by rw [← hT, Lib.size_eq]; simp; omega
  have hT0 : (0 : Int) ≤ (T.size : Int) := by omega
  clear hat hT hzl hFl hE CCk
  generalize lyE l root = E at *
  go_wp2_with fail
  have hn1 : (((l.length + 1 : Nat) : Nat) : Int) = (l.length : Int) + 1 := by omega
  go_loopw [7] (fun vi wr => ∃ k : Nat, vi = .int .i64 k ∧ Hid (k ≤ l.length + 1 ∧ Below w5.heap.size w5 wr)) (fun vi _ => l.length + 1 - (intOf vi).toNat)
  case atStart => exact ⟨0, rfl, hide ⟨by omega, Below.refl _ _⟩⟩
  case round =>
    obtain ⟨k, rfl, HV⟩ := hrel
    obtain ⟨hk, hbel⟩ := HV.out
    have hk0 : (0 : Int) ≤ (k : Int) := by omega
    rcases Nat.lt_or_ge k (l.length + 1) with hlt | hge
    case inr =>
      have tk : ¬ ((k : Int) < ((l.length + 1 : Nat) : Int)) := by omega
      have H6 := hide hbel
      have C5 := hide (C4.out _ hbel)
      clear HV hk hbel hge
      go_wp2_with (go_at_call 5; refine C5.out.mono ?_; rintro e w7 ⟨rfl, h7⟩)
      go_ret
      exact ⟨rfl, below_t5 HB5.out (below_t5 H6.out h7)⟩
    obtain ⟨pre, post, g1, g2, g3, g4⟩ := HAT.out k hlt
    obtain ⟨u1, u2⟩ := cut_at HT.out.symm g1
    rcases HL5.out with hnil | ⟨b, off, rfl, hb, hcell⟩
    · have := HZL.out; rw [hnil] at this; simp at this
    have ck := (hbel.cell (p := ⟨b, off + k, none⟩) hb).trans (hcell k (by rw [HZL.out]; exact hlt))
    rw [g2] at ck
    have hpv : ¬ (0 < (k : Int)) ∨ ∃ (j : Nat) (z : Int), (k : Int) - 1 = (j : Int) ∧ (0 : Int) < (k : Int) ∧ wr.cell? ⟨b, off + j, none⟩ = some (.int .i64 z) ∧ ¬ ((pre.length : Int) ≤ z) ∧ (j : Int) < ((l.length + 1 : Nat) : Int) := by
      rcases Nat.eq_zero_or_pos k with h0 | h0
      · exact Or.inl (by omega)
      · refine Or.inr ⟨k - 1, _, by omega, by omega, (hbel.cell (p := ⟨b, off + (k - 1), none⟩) hb).trans (hcell (k - 1) (by rw [HZL.out]; omega)), ?_, by omega⟩
        have := g4 h0
        omega
    have hW0 : (wnT l.length k).length ≤ 40 := by
      unfold wnT
      split
      · have := ds_len (k + 1) (by omega)
        rw [show ((k + 1 : Nat) : Int) = (k : Int) + 1 by omega] at this
        simp
        omega
      · simp
    have hws : ∃ Wb : ByteArray, (⟨(wnT l.length k).toArray⟩ : ByteArray) = Wb ∧ Wb.size = (wnT l.length k).length := ⟨_, rfl, by rw [Lib.size_eq]⟩
    obtain ⟨Wb, hWb, hWs⟩ := hws
    rw [hWb, ← hWs] at u2
    rw [← hWs] at u1
    have p1 : ¬ ((pre.length : Int) < 15) := by omega
    have p2 : ¬ ((T.size : Int) - (Wb.size : Int) < (pre.length : Int)) := by omega
    have p4 : (pre.length : Int) + (Wb.size : Int) ≤ (T.size : Int) := by omega
    have p5 : (0 : Int) ≤ (Wb.size : Int) ∧ (Wb.size : Int) ≤ 40 := by omega
    obtain ⟨p5, p6⟩ := p5
    have p7 : (pre.length : Int) ≤ (T.size : Int) := by omega
    have hkl : (k : Int) < ((l.length + 1 : Nat) : Int) := by omega
    have HBL := hide hbel
    have CD := hide (dgt_any 6 ((k : Int) + 1) wr (by omega) (by omega) (by omega))
    obtain ⟨⟨s2, s3⟩, _⟩ := (HK5.out.below hbel).two
    have hbw : b < wr.heap.size := Nat.lt_of_lt_of_le hb hbel.size
    have HWB := hide hWb
    clear g1 g2 g3 g4 hcell HV hk hbel hW0 hWs hWb s0 s1 C4 u1 hlt
    generalize pre.length = P at *
    have a2 : (0 : Int) ≤ (P : Int) := by omega
    have a4 : IntKind.i64.wrap ((T.size : Int) - (Wb.size : Int)) = (T.size : Int) - (Wb.size : Int) := by rw [IntKind.wrap_i64]; omega
    have a5 : IntKind.i64.wrap ((P : Int) + (Wb.size : Int)) = (P : Int) + (Wb.size : Int) := by rw [IntKind.wrap_i64]; omega
    have a6 : decide ((P : Int) < 15) = false := by simp; omega
    have a9 : decide ((T.size : Int) - (Wb.size : Int) < (P : Int)) = false := by simp; omega
    have a10 : (0 : Int) ≤ (P : Int) + (Wb.size : Int) := by omega
    have a11 : (P : Int) ≤ (P : Int) + (Wb.size : Int) := by omega
    have a12 : ((P : Int) + (Wb.size : Int)).toNat = P + Wb.size := by omega
    have k6 : k < l.length + 1 := by omega
    have k7 : (k : Int) < (l.length : Int) + 1 := by omega
    have HPV := hide hpv
    have ADD : Hid (k < l.length → ∀ w, (Op.stringOp .add (dsI ((k : Int) + 1)) ⟨#[32, 48, 32, 111, 98, 106, 10]⟩).run Tryd.prog w = .ok (.string Wb) w) := hide fun hkn w => by
      have := HWB.out
      unfold wnT at this
      rw [if_pos (by omega)] at this
      have hl := ds_len (k + 1) (by omega)
      rw [show ((k + 1 : Nat) : Int) = (k : Int) + 1 by omega] at hl
      rw [run_string_add_sum _ _ _ (by unfold dsI; rw [Lib.size_eq]; simp; have : (⟨#[32, 48, 32, 111, 98, 106, 10]⟩ : ByteArray).size = 7 := rfl; omega)]
      rw [← this]
      unfold dsI
      rw [show (⟨#[32, 48, 32, 111, 98, 106, 10]⟩ : ByteArray) = ⟨[32, 48, 32, 111, 98, 106, 10].toArray⟩ from rfl, ByteArray.mk_append_mk]
    have XR : Hid (l.length ≤ k → (⟨#[120, 114, 101, 102, 10]⟩ : ByteArray) = Wb) := hide fun hkn => by
      have := HWB.out
      unfold wnT at this
      rw [if_neg (by omega)] at this
      exact this
    have KS := hide (show ∀ y, Below wr.heap.size wr y → y.cell? ⟨b, off + k, none⟩ = some (.int .i64 (P : Int)) from fun y hy => (hy.cell (p := ⟨b, off + k, none⟩) hbw).trans ck)
    clear HF HOK HG HB0 HK0 HK1 HB1 HD2 HK2 HB2 HK3 HB3 HK4 HB4 HAT HT HZL HL5 ck hpv HWB
    rcases Nat.lt_or_ge k l.length with hkn | hkn
    case inl =>
      have hkn' : (k : Int) < (l.length : Int) := by omega
      have hadd := ADD.out hkn
      clear ADD XR
      go_wp2_with (go_at_call 10; refine CD.out.mono ?_; rintro e w8 ⟨rfl, h8⟩)
      have H8 := hide h8
      clear s2 s3 CD hadd h8
      have hb8 : b < w8.heap.size := Nat.lt_of_lt_of_le hbw H8.out.size
      have KS0 := hide (fun y (hy : Below w8.heap.size w8 y) => KS.out y (below_t5 H8.out hy))
      have ck8 := KS0.out _ (Below.refl _ _)
      rcases HPV.out with hpv | ⟨j, z, j1, j2, j3, j4, j5⟩
      case inl =>
        have z7 : decide ((0 : Int) < (k : Int)) = false := by simp; omega
        have z7n : decide (0 < k) = false := by simp; omega
        have z7p : ¬ 0 < k := by omega
        refine wp_region_held_drew (S := (fun y : World => y.cell? ⟨b, off + k, none⟩ = some (.int .i64 (P : Int)))) (by kernel_rfl) (KS0.out _ (below_drewN (Below.refl _ _) 1)) (fun hHeld => ?_)
        refine takeW (i := 0) (d := 75) (v := .slice (some ⟨b, off, none⟩) (l.length + 1) c5) rfl rfl (by kernel_rfl) (by kernel_rfl) (by kernel_rfl) (fun _ _ _ h => h) (by rfl) ?_ (by assumption) ?_
        · intro x hSx
          have q0 := hSx
          go_simp
        simp only [Act.put, List.setIfInBounds_toArray, List.set_cons_zero, List.set_cons_succ]
        refine takeW (i := 1) (d := 76) (v := .int .i64 (k : Int)) rfl rfl (by kernel_rfl) (by kernel_rfl) (by kernel_rfl) (fun _ _ _ h => h) (by rfl) ?_ (by assumption) ?_
        · intro x hSx
          have q0 := hSx
          go_simp
        simp only [Act.put, List.setIfInBounds_toArray, List.set_cons_zero, List.set_cons_succ]
        refine takeW (i := 2) (d := 77) (v := .pointer (some ⟨b, off + k, none⟩)) rfl rfl (by kernel_rfl) (by kernel_rfl) (by kernel_rfl) (fun _ _ _ h => h) (by rfl) ?_ (by assumption) ?_
        · intro x hSx
          have q0 := hSx
          go_simp
        simp only [Act.put, List.setIfInBounds_toArray, List.set_cons_zero, List.set_cons_succ]
        refine takeW (i := 3) (d := 78) (v := .int .i64 (P : Int)) rfl rfl (by kernel_rfl) (by kernel_rfl) (by kernel_rfl) (fun _ _ _ h => h) (by rfl) ?_ (by assumption) ?_
        · intro x hSx
          have q0 := hSx
          go_simp
        simp only [Act.put, List.setIfInBounds_toArray, List.set_cons_zero, List.set_cons_succ]
        refine takeW (i := 4) (d := 79) (v := .bool false) rfl rfl (by kernel_rfl) (by kernel_rfl) (by kernel_rfl) (fun _ _ _ h => h) (by rfl) ?_ (by assumption) ?_
        · intro x hSx
          have q0 := hSx
          go_simp
        simp only [Act.put, List.setIfInBounds_toArray, List.set_cons_zero, List.set_cons_succ]
        refine takeW (i := 5) (d := 80) (v := .bool false) rfl rfl (by kernel_rfl) (by kernel_rfl) (by kernel_rfl) (fun _ _ _ h => h) (by rfl) ?_ (by assumption) ?_
        · intro x hSx
          have q0 := hSx
          go_simp
        simp only [Act.put, List.setIfInBounds_toArray, List.set_cons_zero, List.set_cons_succ]
        refine takeW (i := 6) (d := 81) (v := .int .i64 (k : Int)) rfl rfl (by kernel_rfl) (by kernel_rfl) (by kernel_rfl) (fun _ _ _ h => h) (by rfl) ?_ (by assumption) ?_
        · intro x hSx
          have q0 := hSx
          go_simp
        simp only [Act.put, List.setIfInBounds_toArray, List.set_cons_zero, List.set_cons_succ]
        refine takeW (i := 7) (d := 82) (v := .bool false) rfl rfl (by kernel_rfl) (by kernel_rfl) (by kernel_rfl) (fun _ _ _ h => h) (by rfl) ?_ (by assumption) ?_
        · intro x hSx
          have q0 := hSx
          go_simp
        simp only [Act.put, List.setIfInBounds_toArray, List.set_cons_zero, List.set_cons_succ]
        refine takeW (i := 8) (d := 83) (v := .bool false) rfl rfl (by kernel_rfl) (by kernel_rfl) (by kernel_rfl) (fun _ _ _ h => h) (by rfl) ?_ (by assumption) ?_
        · intro x hSx
          have q0 := hSx
          go_simp
        simp only [Act.put, List.setIfInBounds_toArray, List.set_cons_zero, List.set_cons_succ]
        refine takeN (i := 9) (d := 84) rfl rfl (by kernel_rfl) (by kernel_rfl) (by kernel_rfl) (fun _ _ _ h => h) (by rfl) (by assumption) ?_
        simp only [Act.put, List.setIfInBounds_toArray, List.set_cons_zero, List.set_cons_succ]
        refine takeN (i := 10) (d := 85) rfl rfl (by kernel_rfl) (by kernel_rfl) (by kernel_rfl) (fun _ _ _ h => h) (by rfl) (by assumption) ?_
        simp only [Act.put, List.setIfInBounds_toArray, List.set_cons_zero, List.set_cons_succ]
        refine takeN (i := 11) (d := 86) rfl rfl (by kernel_rfl) (by kernel_rfl) (by kernel_rfl) (fun _ _ _ h => h) (by rfl) (by assumption) ?_
        simp only [Act.put, List.setIfInBounds_toArray, List.set_cons_zero, List.set_cons_succ]
        refine takeN (i := 12) (d := 87) rfl rfl (by kernel_rfl) (by kernel_rfl) (by kernel_rfl) (fun _ _ _ h => h) (by rfl) (by assumption) ?_
        simp only [Act.put, List.setIfInBounds_toArray, List.set_cons_zero, List.set_cons_succ]
        refine takeN (i := 13) (d := 88) rfl rfl (by kernel_rfl) (by kernel_rfl) (by kernel_rfl) (fun _ _ _ h => h) (by rfl) (by assumption) ?_
        simp only [Act.put, List.setIfInBounds_toArray, List.set_cons_zero, List.set_cons_succ]
        refine takeN (i := 14) (d := 89) rfl rfl (by kernel_rfl) (by kernel_rfl) (by kernel_rfl) (fun _ _ _ h => h) (by rfl) (by assumption) ?_
        simp only [Act.put, List.setIfInBounds_toArray, List.set_cons_zero, List.set_cons_succ]
        refine takeN (i := 15) (d := 90) rfl rfl (by kernel_rfl) (by kernel_rfl) (by kernel_rfl) (fun _ _ _ h => h) (by rfl) (by assumption) ?_
        simp only [Act.put, List.setIfInBounds_toArray, List.set_cons_zero, List.set_cons_succ]
        refine takeN (i := 16) (d := 91) rfl rfl (by kernel_rfl) (by kernel_rfl) (by kernel_rfl) (fun _ _ _ h => h) (by rfl) (by assumption) ?_
        simp only [Act.put, List.setIfInBounds_toArray, List.set_cons_zero, List.set_cons_succ]
        refine takeN (i := 17) (d := 92) rfl rfl (by kernel_rfl) (by kernel_rfl) (by kernel_rfl) (fun _ _ _ h => h) (by rfl) (by assumption) ?_
        simp only [Act.put, List.setIfInBounds_toArray, List.set_cons_zero, List.set_cons_succ]
        refine takeN (i := 18) (d := 93) rfl rfl (by kernel_rfl) (by kernel_rfl) (by kernel_rfl) (fun _ _ _ h => h) (by rfl) (by assumption) ?_
        simp only [Act.put, List.setIfInBounds_toArray, List.set_cons_zero, List.set_cons_succ]
        refine takeW (i := 19) (d := 94) (v := .bool false) rfl rfl (by kernel_rfl) (by kernel_rfl) (by kernel_rfl) (fun _ _ _ h => h) (by rfl) ?_ (by assumption) ?_
        · intro x hSx
          have q0 := hSx
          go_simp
        simp only [Act.put, List.setIfInBounds_toArray, List.set_cons_zero, List.set_cons_succ]
        refine takeW (i := 20) (d := 95) (v := .bool false) rfl rfl (by kernel_rfl) (by kernel_rfl) (by kernel_rfl) (fun _ _ _ h => h) (by rfl) ?_ (by assumption) ?_
        · intro x hSx
          have q0 := hSx
          go_simp
        simp only [Act.put, List.setIfInBounds_toArray, List.set_cons_zero, List.set_cons_succ]
        refine takeW (i := 21) (d := 96) (v := .bool false) rfl rfl (by kernel_rfl) (by kernel_rfl) (by kernel_rfl) (fun _ _ _ h => h) (by rfl) ?_ (by assumption) ?_
        · intro x hSx
          have q0 := hSx
          go_simp
        simp only [Act.put, List.setIfInBounds_toArray, List.set_cons_zero, List.set_cons_succ]
        refine takeW (i := 22) (d := 97) (v := .slice (some ⟨b, off, none⟩) (l.length + 1) c5) rfl rfl (by kernel_rfl) (by kernel_rfl) (by kernel_rfl) (fun _ _ _ h => h) (by rfl) ?_ (by assumption) ?_
        · intro x hSx
          have q0 := hSx
          go_simp
        simp only [Act.put, List.setIfInBounds_toArray, List.set_cons_zero, List.set_cons_succ]
        refine takeW (i := 23) (d := 98) (v := .int .i64 (k : Int)) rfl rfl (by kernel_rfl) (by kernel_rfl) (by kernel_rfl) (fun _ _ _ h => h) (by rfl) ?_ (by assumption) ?_
        · intro x hSx
          have q0 := hSx
          go_simp
        simp only [Act.put, List.setIfInBounds_toArray, List.set_cons_zero, List.set_cons_succ]
        refine takeW (i := 24) (d := 99) (v := .pointer (some ⟨b, off + k, none⟩)) rfl rfl (by kernel_rfl) (by kernel_rfl) (by kernel_rfl) (fun _ _ _ h => h) (by rfl) ?_ (by assumption) ?_
        · intro x hSx
          have q0 := hSx
          go_simp
        simp only [Act.put, List.setIfInBounds_toArray, List.set_cons_zero, List.set_cons_succ]
        refine takeW (i := 25) (d := 100) (v := .int .i64 (P : Int)) rfl rfl (by kernel_rfl) (by kernel_rfl) (by kernel_rfl) (fun _ _ _ h => h) (by rfl) ?_ (by assumption) ?_
        · intro x hSx
          have q0 := hSx
          go_simp
        simp only [Act.put, List.setIfInBounds_toArray, List.set_cons_zero, List.set_cons_succ]
        refine takeW (i := 26) (d := 101) (v := .string T) rfl rfl (by kernel_rfl) (by kernel_rfl) (by kernel_rfl) (fun _ _ _ h => h) (by rfl) ?_ (by assumption) ?_
        · intro x hSx
          have q0 := hSx
          go_simp
        simp only [Act.put, List.setIfInBounds_toArray, List.set_cons_zero, List.set_cons_succ]
        refine takeW (i := 27) (d := 102) (v := .int .i64 (T.size : Int)) rfl rfl (by kernel_rfl) (by kernel_rfl) (by kernel_rfl) (fun _ _ _ h => h) (by rfl) ?_ (by assumption) ?_
        · intro x hSx
          have q0 := hSx
          go_simp
        simp only [Act.put, List.setIfInBounds_toArray, List.set_cons_zero, List.set_cons_succ]
        refine takeW (i := 28) (d := 103) (v := .string Wb) rfl rfl (by kernel_rfl) (by kernel_rfl) (by kernel_rfl) (fun _ _ _ h => h) (by rfl) ?_ (by assumption) ?_
        · intro x hSx
          have q0 := hSx
          go_simp
        simp only [Act.put, List.setIfInBounds_toArray, List.set_cons_zero, List.set_cons_succ]
        refine takeW (i := 29) (d := 104) (v := .int .i64 (Wb.size : Int)) rfl rfl (by kernel_rfl) (by kernel_rfl) (by kernel_rfl) (fun _ _ _ h => h) (by rfl) ?_ (by assumption) ?_
        · intro x hSx
          have q0 := hSx
          go_simp
        simp only [Act.put, List.setIfInBounds_toArray, List.set_cons_zero, List.set_cons_succ]
        refine takeW (i := 30) (d := 105) (v := .int .i64 ((T.size : Int) - (Wb.size : Int))) rfl rfl (by kernel_rfl) (by kernel_rfl) (by kernel_rfl) (fun _ _ _ h => h) (by rfl) ?_ (by assumption) ?_
        · intro x hSx
          have q0 := hSx
          go_simp
        simp only [Act.put, List.setIfInBounds_toArray, List.set_cons_zero, List.set_cons_succ]
        refine takeW (i := 31) (d := 106) (v := .bool false) rfl rfl (by kernel_rfl) (by kernel_rfl) (by kernel_rfl) (fun _ _ _ h => h) (by rfl) ?_ (by assumption) ?_
        · intro x hSx
          have q0 := hSx
          go_simp
        simp only [Act.put, List.setIfInBounds_toArray, List.set_cons_zero, List.set_cons_succ]
        refine takeW (i := 32) (d := 107) (v := .bool false) rfl rfl (by kernel_rfl) (by kernel_rfl) (by kernel_rfl) (fun _ _ _ h => h) (by rfl) ?_ (by assumption) ?_
        · intro x hSx
          have q0 := hSx
          go_simp
        simp only [Act.put, List.setIfInBounds_toArray, List.set_cons_zero, List.set_cons_succ]
        refine takeW (i := 33) (d := 108) (v := .bool false) rfl rfl (by kernel_rfl) (by kernel_rfl) (by kernel_rfl) (fun _ _ _ h => h) (by rfl) ?_ (by assumption) ?_
        · intro x hSx
          have q0 := hSx
          go_simp
        simp only [Act.put, List.setIfInBounds_toArray, List.set_cons_zero, List.set_cons_succ]
        refine takeW (i := 34) (d := 109) (v := .string T) rfl rfl (by kernel_rfl) (by kernel_rfl) (by kernel_rfl) (fun _ _ _ h => h) (by rfl) ?_ (by assumption) ?_
        · intro x hSx
          have q0 := hSx
          go_simp
        simp only [Act.put, List.setIfInBounds_toArray, List.set_cons_zero, List.set_cons_succ]
        refine takeW (i := 35) (d := 110) (v := .slice (some ⟨b, off, none⟩) (l.length + 1) c5) rfl rfl (by kernel_rfl) (by kernel_rfl) (by kernel_rfl) (fun _ _ _ h => h) (by rfl) ?_ (by assumption) ?_
        · intro x hSx
          have q0 := hSx
          go_simp
        simp only [Act.put, List.setIfInBounds_toArray, List.set_cons_zero, List.set_cons_succ]
        refine takeW (i := 36) (d := 111) (v := .int .i64 (k : Int)) rfl rfl (by kernel_rfl) (by kernel_rfl) (by kernel_rfl) (fun _ _ _ h => h) (by rfl) ?_ (by assumption) ?_
        · intro x hSx
          have q0 := hSx
          go_simp
        simp only [Act.put, List.setIfInBounds_toArray, List.set_cons_zero, List.set_cons_succ]
        refine takeW (i := 37) (d := 112) (v := .pointer (some ⟨b, off + k, none⟩)) rfl rfl (by kernel_rfl) (by kernel_rfl) (by kernel_rfl) (fun _ _ _ h => h) (by rfl) ?_ (by assumption) ?_
        · intro x hSx
          have q0 := hSx
          go_simp
        simp only [Act.put, List.setIfInBounds_toArray, List.set_cons_zero, List.set_cons_succ]
        refine takeW (i := 38) (d := 113) (v := .int .i64 (P : Int)) rfl rfl (by kernel_rfl) (by kernel_rfl) (by kernel_rfl) (fun _ _ _ h => h) (by rfl) ?_ (by assumption) ?_
        · intro x hSx
          have q0 := hSx
          go_simp
        simp only [Act.put, List.setIfInBounds_toArray, List.set_cons_zero, List.set_cons_succ]
        refine takeW (i := 39) (d := 114) (v := .slice (some ⟨b, off, none⟩) (l.length + 1) c5) rfl rfl (by kernel_rfl) (by kernel_rfl) (by kernel_rfl) (fun _ _ _ h => h) (by rfl) ?_ (by assumption) ?_
        · intro x hSx
          have q0 := hSx
          go_simp
        simp only [Act.put, List.setIfInBounds_toArray, List.set_cons_zero, List.set_cons_succ]
        refine takeW (i := 40) (d := 115) (v := .int .i64 (k : Int)) rfl rfl (by kernel_rfl) (by kernel_rfl) (by kernel_rfl) (fun _ _ _ h => h) (by rfl) ?_ (by assumption) ?_
        · intro x hSx
          have q0 := hSx
          go_simp
        simp only [Act.put, List.setIfInBounds_toArray, List.set_cons_zero, List.set_cons_succ]
        refine takeW (i := 41) (d := 116) (v := .pointer (some ⟨b, off + k, none⟩)) rfl rfl (by kernel_rfl) (by kernel_rfl) (by kernel_rfl) (fun _ _ _ h => h) (by rfl) ?_ (by assumption) ?_
        · intro x hSx
          have q0 := hSx
          go_simp
        simp only [Act.put, List.setIfInBounds_toArray, List.set_cons_zero, List.set_cons_succ]
        refine takeW (i := 42) (d := 117) (v := .int .i64 (P : Int)) rfl rfl (by kernel_rfl) (by kernel_rfl) (by kernel_rfl) (fun _ _ _ h => h) (by rfl) ?_ (by assumption) ?_
        · intro x hSx
          have q0 := hSx
          go_simp
        simp only [Act.put, List.setIfInBounds_toArray, List.set_cons_zero, List.set_cons_succ]
        refine takeW (i := 43) (d := 118) (v := .string Wb) rfl rfl (by kernel_rfl) (by kernel_rfl) (by kernel_rfl) (fun _ _ _ h => h) (by rfl) ?_ (by assumption) ?_
        · intro x hSx
          have q0 := hSx
          go_simp
        simp only [Act.put, List.setIfInBounds_toArray, List.set_cons_zero, List.set_cons_succ]
        refine takeW (i := 44) (d := 119) (v := .int .i64 (Wb.size : Int)) rfl rfl (by kernel_rfl) (by kernel_rfl) (by kernel_rfl) (fun _ _ _ h => h) (by rfl) ?_ (by assumption) ?_
        · intro x hSx
          have q0 := hSx
          go_simp
        simp only [Act.put, List.setIfInBounds_toArray, List.set_cons_zero, List.set_cons_succ]
        refine takeW (i := 45) (d := 120) (v := .int .i64 ((P : Int) + (Wb.size : Int))) rfl rfl (by kernel_rfl) (by kernel_rfl) (by kernel_rfl) (fun _ _ _ h => h) (by rfl) ?_ (by assumption) ?_
        · intro x hSx
          have q0 := hSx
          go_simp
        simp only [Act.put, List.setIfInBounds_toArray, List.set_cons_zero, List.set_cons_succ]
        refine takeW (i := 46) (d := 121) (v := .string Wb) rfl rfl (by kernel_rfl) (by kernel_rfl) (by kernel_rfl) (fun _ _ _ h => h) (by rfl) ?_ (by assumption) ?_
        · intro x hSx
          have q0 := hSx
          go_simp
        simp only [Act.put, List.setIfInBounds_toArray, List.set_cons_zero, List.set_cons_succ]
        refine takeW (i := 47) (d := 122) (v := .string Wb) rfl rfl (by kernel_rfl) (by kernel_rfl) (by kernel_rfl) (fun _ _ _ h => h) (by rfl) ?_ (by assumption) ?_
        · intro x hSx
          have q0 := hSx
          go_simp
        simp only [Act.put, List.setIfInBounds_toArray, List.set_cons_zero, List.set_cons_succ]
        refine takeW (i := 48) (d := 123) (v := .bool false) rfl rfl (by kernel_rfl) (by kernel_rfl) (by kernel_rfl) (fun _ _ _ h => h) (by rfl) ?_ (by assumption) ?_
        · intro x hSx
          have q0 := hSx
          go_simp
        simp only [Act.put, List.setIfInBounds_toArray, List.set_cons_zero, List.set_cons_succ]
        refine takeW (i := 49) (d := 124) (v := .bool false) rfl rfl (by kernel_rfl) (by kernel_rfl) (by kernel_rfl) (fun _ _ _ h => h) (by rfl) ?_ (by assumption) ?_
        · intro x hSx
          have q0 := hSx
          go_simp
        simp only [Act.put, List.setIfInBounds_toArray, List.set_cons_zero, List.set_cons_succ]
        refine wpAnyH_done (by kernel_rfl) ?_ _
        go_wp2_with fail
        go_roundw
        case rel => exact ⟨k + 1, by go_num, hide ⟨by omega, below_t5 HBL.out (below_drewN H8.out 1)⟩⟩
        case measure => simp [intOf]; omega
      have a1 : (0 : Int) ≤ (j : Int) := by omega
      have a3 : IntKind.i64.wrap ((k : Int) - 1) = (j : Int) := by rw [IntKind.wrap_i64]; omega
      have j6 : j < l.length + 1 := by omega
      have j7 : (j : Int) < (l.length : Int) + 1 := by omega
      have j8 : j ≤ l.length := by omega
      have a3b : IntKind.i64.wrap (j : Int) = (j : Int) := by rw [IntKind.wrap_i64]; omega
      have a7 : decide ((0 : Int) < (k : Int)) = true := by simp; omega
      have a7n : decide (0 < k) = true := by simp; omega
      have a7p : 0 < k := by omega
      have a8 : decide ((P : Int) ≤ z) = false := by simp; omega
      have j38 := (H8.out.cell (p := ⟨b, off + j, none⟩) hbw).trans j3
      clear j3
      go_region_held3 (fun y => y.cell? ⟨b, off + k, none⟩ = some (.int .i64 (P : Int)) ∧ y.cell? ⟨b, off + j, none⟩ = some (.int .i64 z)) (go_keep) ((fail))
      all_goals
        go_wp2_with fail
        go_roundw
        case rel => exact ⟨k + 1, by go_num, hide ⟨by omega, below_t5 HBL.out (below_drewN H8.out 1)⟩⟩
        case measure => simp [intOf]; omega
    case inr =>
      have hkn' : ¬ (k : Int) < (l.length : Int) := by omega
      have hxr := XR.out hkn
      clear ADD XR
      go_wp2_with fail
      have H8 := hide (Below.refl wr.heap.size wr)
      clear s2 s3 CD hxr
      have hb8 : b < wr.heap.size := Nat.lt_of_lt_of_le hbw H8.out.size
      have KS0 := hide (fun y (hy : Below wr.heap.size wr y) => KS.out y (below_t5 H8.out hy))
      have ck8 := KS0.out _ (Below.refl _ _)
      rcases HPV.out with hpv | ⟨j, z, j1, j2, j3, j4, j5⟩
      case inl =>
        have z7 : decide ((0 : Int) < (k : Int)) = false := by simp; omega
        have z7n : decide (0 < k) = false := by simp; omega
        have z7p : ¬ 0 < k := by omega
        refine wp_region_held_drew (S := (fun y : World => y.cell? ⟨b, off + k, none⟩ = some (.int .i64 (P : Int)))) (by kernel_rfl) (KS0.out _ (below_drewN (Below.refl _ _) 1)) (fun hHeld => ?_)
        refine takeW (i := 0) (d := 75) (v := .slice (some ⟨b, off, none⟩) (l.length + 1) c5) rfl rfl (by kernel_rfl) (by kernel_rfl) (by kernel_rfl) (fun _ _ _ h => h) (by rfl) ?_ (by assumption) ?_
        · intro x hSx
          have q0 := hSx
          go_simp
        simp only [Act.put, List.setIfInBounds_toArray, List.set_cons_zero, List.set_cons_succ]
        refine takeW (i := 1) (d := 76) (v := .int .i64 (k : Int)) rfl rfl (by kernel_rfl) (by kernel_rfl) (by kernel_rfl) (fun _ _ _ h => h) (by rfl) ?_ (by assumption) ?_
        · intro x hSx
          have q0 := hSx
          go_simp
        simp only [Act.put, List.setIfInBounds_toArray, List.set_cons_zero, List.set_cons_succ]
        refine takeW (i := 2) (d := 77) (v := .pointer (some ⟨b, off + k, none⟩)) rfl rfl (by kernel_rfl) (by kernel_rfl) (by kernel_rfl) (fun _ _ _ h => h) (by rfl) ?_ (by assumption) ?_
        · intro x hSx
          have q0 := hSx
          go_simp
        simp only [Act.put, List.setIfInBounds_toArray, List.set_cons_zero, List.set_cons_succ]
        refine takeW (i := 3) (d := 78) (v := .int .i64 (P : Int)) rfl rfl (by kernel_rfl) (by kernel_rfl) (by kernel_rfl) (fun _ _ _ h => h) (by rfl) ?_ (by assumption) ?_
        · intro x hSx
          have q0 := hSx
          go_simp
        simp only [Act.put, List.setIfInBounds_toArray, List.set_cons_zero, List.set_cons_succ]
        refine takeW (i := 4) (d := 79) (v := .bool false) rfl rfl (by kernel_rfl) (by kernel_rfl) (by kernel_rfl) (fun _ _ _ h => h) (by rfl) ?_ (by assumption) ?_
        · intro x hSx
          have q0 := hSx
          go_simp
        simp only [Act.put, List.setIfInBounds_toArray, List.set_cons_zero, List.set_cons_succ]
        refine takeW (i := 5) (d := 80) (v := .bool false) rfl rfl (by kernel_rfl) (by kernel_rfl) (by kernel_rfl) (fun _ _ _ h => h) (by rfl) ?_ (by assumption) ?_
        · intro x hSx
          have q0 := hSx
          go_simp
        simp only [Act.put, List.setIfInBounds_toArray, List.set_cons_zero, List.set_cons_succ]
        refine takeW (i := 6) (d := 81) (v := .int .i64 (k : Int)) rfl rfl (by kernel_rfl) (by kernel_rfl) (by kernel_rfl) (fun _ _ _ h => h) (by rfl) ?_ (by assumption) ?_
        · intro x hSx
          have q0 := hSx
          go_simp
        simp only [Act.put, List.setIfInBounds_toArray, List.set_cons_zero, List.set_cons_succ]
        refine takeW (i := 7) (d := 82) (v := .bool false) rfl rfl (by kernel_rfl) (by kernel_rfl) (by kernel_rfl) (fun _ _ _ h => h) (by rfl) ?_ (by assumption) ?_
        · intro x hSx
          have q0 := hSx
          go_simp
        simp only [Act.put, List.setIfInBounds_toArray, List.set_cons_zero, List.set_cons_succ]
        refine takeW (i := 8) (d := 83) (v := .bool false) rfl rfl (by kernel_rfl) (by kernel_rfl) (by kernel_rfl) (fun _ _ _ h => h) (by rfl) ?_ (by assumption) ?_
        · intro x hSx
          have q0 := hSx
          go_simp
        simp only [Act.put, List.setIfInBounds_toArray, List.set_cons_zero, List.set_cons_succ]
        refine takeN (i := 9) (d := 84) rfl rfl (by kernel_rfl) (by kernel_rfl) (by kernel_rfl) (fun _ _ _ h => h) (by rfl) (by assumption) ?_
        simp only [Act.put, List.setIfInBounds_toArray, List.set_cons_zero, List.set_cons_succ]
        refine takeN (i := 10) (d := 85) rfl rfl (by kernel_rfl) (by kernel_rfl) (by kernel_rfl) (fun _ _ _ h => h) (by rfl) (by assumption) ?_
        simp only [Act.put, List.setIfInBounds_toArray, List.set_cons_zero, List.set_cons_succ]
        refine takeN (i := 11) (d := 86) rfl rfl (by kernel_rfl) (by kernel_rfl) (by kernel_rfl) (fun _ _ _ h => h) (by rfl) (by assumption) ?_
        simp only [Act.put, List.setIfInBounds_toArray, List.set_cons_zero, List.set_cons_succ]
        refine takeN (i := 12) (d := 87) rfl rfl (by kernel_rfl) (by kernel_rfl) (by kernel_rfl) (fun _ _ _ h => h) (by rfl) (by assumption) ?_
        simp only [Act.put, List.setIfInBounds_toArray, List.set_cons_zero, List.set_cons_succ]
        refine takeN (i := 13) (d := 88) rfl rfl (by kernel_rfl) (by kernel_rfl) (by kernel_rfl) (fun _ _ _ h => h) (by rfl) (by assumption) ?_
        simp only [Act.put, List.setIfInBounds_toArray, List.set_cons_zero, List.set_cons_succ]
        refine takeN (i := 14) (d := 89) rfl rfl (by kernel_rfl) (by kernel_rfl) (by kernel_rfl) (fun _ _ _ h => h) (by rfl) (by assumption) ?_
        simp only [Act.put, List.setIfInBounds_toArray, List.set_cons_zero, List.set_cons_succ]
        refine takeN (i := 15) (d := 90) rfl rfl (by kernel_rfl) (by kernel_rfl) (by kernel_rfl) (fun _ _ _ h => h) (by rfl) (by assumption) ?_
        simp only [Act.put, List.setIfInBounds_toArray, List.set_cons_zero, List.set_cons_succ]
        refine takeN (i := 16) (d := 91) rfl rfl (by kernel_rfl) (by kernel_rfl) (by kernel_rfl) (fun _ _ _ h => h) (by rfl) (by assumption) ?_
        simp only [Act.put, List.setIfInBounds_toArray, List.set_cons_zero, List.set_cons_succ]
        refine takeN (i := 17) (d := 92) rfl rfl (by kernel_rfl) (by kernel_rfl) (by kernel_rfl) (fun _ _ _ h => h) (by rfl) (by assumption) ?_
        simp only [Act.put, List.setIfInBounds_toArray, List.set_cons_zero, List.set_cons_succ]
        refine takeN (i := 18) (d := 93) rfl rfl (by kernel_rfl) (by kernel_rfl) (by kernel_rfl) (fun _ _ _ h => h) (by rfl) (by assumption) ?_
        simp only [Act.put, List.setIfInBounds_toArray, List.set_cons_zero, List.set_cons_succ]
        refine takeW (i := 19) (d := 94) (v := .bool false) rfl rfl (by kernel_rfl) (by kernel_rfl) (by kernel_rfl) (fun _ _ _ h => h) (by rfl) ?_ (by assumption) ?_
        · intro x hSx
          have q0 := hSx
          go_simp
        simp only [Act.put, List.setIfInBounds_toArray, List.set_cons_zero, List.set_cons_succ]
        refine takeW (i := 20) (d := 95) (v := .bool false) rfl rfl (by kernel_rfl) (by kernel_rfl) (by kernel_rfl) (fun _ _ _ h => h) (by rfl) ?_ (by assumption) ?_
        · intro x hSx
          have q0 := hSx
          go_simp
        simp only [Act.put, List.setIfInBounds_toArray, List.set_cons_zero, List.set_cons_succ]
        refine takeW (i := 21) (d := 96) (v := .bool false) rfl rfl (by kernel_rfl) (by kernel_rfl) (by kernel_rfl) (fun _ _ _ h => h) (by rfl) ?_ (by assumption) ?_
        · intro x hSx
          have q0 := hSx
          go_simp
        simp only [Act.put, List.setIfInBounds_toArray, List.set_cons_zero, List.set_cons_succ]
        refine takeW (i := 22) (d := 97) (v := .slice (some ⟨b, off, none⟩) (l.length + 1) c5) rfl rfl (by kernel_rfl) (by kernel_rfl) (by kernel_rfl) (fun _ _ _ h => h) (by rfl) ?_ (by assumption) ?_
        · intro x hSx
          have q0 := hSx
          go_simp
        simp only [Act.put, List.setIfInBounds_toArray, List.set_cons_zero, List.set_cons_succ]
        refine takeW (i := 23) (d := 98) (v := .int .i64 (k : Int)) rfl rfl (by kernel_rfl) (by kernel_rfl) (by kernel_rfl) (fun _ _ _ h => h) (by rfl) ?_ (by assumption) ?_
        · intro x hSx
          have q0 := hSx
          go_simp
        simp only [Act.put, List.setIfInBounds_toArray, List.set_cons_zero, List.set_cons_succ]
        refine takeW (i := 24) (d := 99) (v := .pointer (some ⟨b, off + k, none⟩)) rfl rfl (by kernel_rfl) (by kernel_rfl) (by kernel_rfl) (fun _ _ _ h => h) (by rfl) ?_ (by assumption) ?_
        · intro x hSx
          have q0 := hSx
          go_simp
        simp only [Act.put, List.setIfInBounds_toArray, List.set_cons_zero, List.set_cons_succ]
        refine takeW (i := 25) (d := 100) (v := .int .i64 (P : Int)) rfl rfl (by kernel_rfl) (by kernel_rfl) (by kernel_rfl) (fun _ _ _ h => h) (by rfl) ?_ (by assumption) ?_
        · intro x hSx
          have q0 := hSx
          go_simp
        simp only [Act.put, List.setIfInBounds_toArray, List.set_cons_zero, List.set_cons_succ]
        refine takeW (i := 26) (d := 101) (v := .string T) rfl rfl (by kernel_rfl) (by kernel_rfl) (by kernel_rfl) (fun _ _ _ h => h) (by rfl) ?_ (by assumption) ?_
        · intro x hSx
          have q0 := hSx
          go_simp
        simp only [Act.put, List.setIfInBounds_toArray, List.set_cons_zero, List.set_cons_succ]
        refine takeW (i := 27) (d := 102) (v := .int .i64 (T.size : Int)) rfl rfl (by kernel_rfl) (by kernel_rfl) (by kernel_rfl) (fun _ _ _ h => h) (by rfl) ?_ (by assumption) ?_
        · intro x hSx
          have q0 := hSx
          go_simp
        simp only [Act.put, List.setIfInBounds_toArray, List.set_cons_zero, List.set_cons_succ]
        refine takeW (i := 28) (d := 103) (v := .string Wb) rfl rfl (by kernel_rfl) (by kernel_rfl) (by kernel_rfl) (fun _ _ _ h => h) (by rfl) ?_ (by assumption) ?_
        · intro x hSx
          have q0 := hSx
          go_simp
        simp only [Act.put, List.setIfInBounds_toArray, List.set_cons_zero, List.set_cons_succ]
        refine takeW (i := 29) (d := 104) (v := .int .i64 (Wb.size : Int)) rfl rfl (by kernel_rfl) (by kernel_rfl) (by kernel_rfl) (fun _ _ _ h => h) (by rfl) ?_ (by assumption) ?_
        · intro x hSx
          have q0 := hSx
          go_simp
        simp only [Act.put, List.setIfInBounds_toArray, List.set_cons_zero, List.set_cons_succ]
        refine takeW (i := 30) (d := 105) (v := .int .i64 ((T.size : Int) - (Wb.size : Int))) rfl rfl (by kernel_rfl) (by kernel_rfl) (by kernel_rfl) (fun _ _ _ h => h) (by rfl) ?_ (by assumption) ?_
        · intro x hSx
          have q0 := hSx
          go_simp
        simp only [Act.put, List.setIfInBounds_toArray, List.set_cons_zero, List.set_cons_succ]
        refine takeW (i := 31) (d := 106) (v := .bool false) rfl rfl (by kernel_rfl) (by kernel_rfl) (by kernel_rfl) (fun _ _ _ h => h) (by rfl) ?_ (by assumption) ?_
        · intro x hSx
          have q0 := hSx
          go_simp
        simp only [Act.put, List.setIfInBounds_toArray, List.set_cons_zero, List.set_cons_succ]
        refine takeW (i := 32) (d := 107) (v := .bool false) rfl rfl (by kernel_rfl) (by kernel_rfl) (by kernel_rfl) (fun _ _ _ h => h) (by rfl) ?_ (by assumption) ?_
        · intro x hSx
          have q0 := hSx
          go_simp
        simp only [Act.put, List.setIfInBounds_toArray, List.set_cons_zero, List.set_cons_succ]
        refine takeW (i := 33) (d := 108) (v := .bool false) rfl rfl (by kernel_rfl) (by kernel_rfl) (by kernel_rfl) (fun _ _ _ h => h) (by rfl) ?_ (by assumption) ?_
        · intro x hSx
          have q0 := hSx
          go_simp
        simp only [Act.put, List.setIfInBounds_toArray, List.set_cons_zero, List.set_cons_succ]
        refine takeW (i := 34) (d := 109) (v := .string T) rfl rfl (by kernel_rfl) (by kernel_rfl) (by kernel_rfl) (fun _ _ _ h => h) (by rfl) ?_ (by assumption) ?_
        · intro x hSx
          have q0 := hSx
          go_simp
        simp only [Act.put, List.setIfInBounds_toArray, List.set_cons_zero, List.set_cons_succ]
        refine takeW (i := 35) (d := 110) (v := .slice (some ⟨b, off, none⟩) (l.length + 1) c5) rfl rfl (by kernel_rfl) (by kernel_rfl) (by kernel_rfl) (fun _ _ _ h => h) (by rfl) ?_ (by assumption) ?_
        · intro x hSx
          have q0 := hSx
          go_simp
        simp only [Act.put, List.setIfInBounds_toArray, List.set_cons_zero, List.set_cons_succ]
        refine takeW (i := 36) (d := 111) (v := .int .i64 (k : Int)) rfl rfl (by kernel_rfl) (by kernel_rfl) (by kernel_rfl) (fun _ _ _ h => h) (by rfl) ?_ (by assumption) ?_
        · intro x hSx
          have q0 := hSx
          go_simp
        simp only [Act.put, List.setIfInBounds_toArray, List.set_cons_zero, List.set_cons_succ]
        refine takeW (i := 37) (d := 112) (v := .pointer (some ⟨b, off + k, none⟩)) rfl rfl (by kernel_rfl) (by kernel_rfl) (by kernel_rfl) (fun _ _ _ h => h) (by rfl) ?_ (by assumption) ?_
        · intro x hSx
          have q0 := hSx
          go_simp
        simp only [Act.put, List.setIfInBounds_toArray, List.set_cons_zero, List.set_cons_succ]
        refine takeW (i := 38) (d := 113) (v := .int .i64 (P : Int)) rfl rfl (by kernel_rfl) (by kernel_rfl) (by kernel_rfl) (fun _ _ _ h => h) (by rfl) ?_ (by assumption) ?_
        · intro x hSx
          have q0 := hSx
          go_simp
        simp only [Act.put, List.setIfInBounds_toArray, List.set_cons_zero, List.set_cons_succ]
        refine takeW (i := 39) (d := 114) (v := .slice (some ⟨b, off, none⟩) (l.length + 1) c5) rfl rfl (by kernel_rfl) (by kernel_rfl) (by kernel_rfl) (fun _ _ _ h => h) (by rfl) ?_ (by assumption) ?_
        · intro x hSx
          have q0 := hSx
          go_simp
        simp only [Act.put, List.setIfInBounds_toArray, List.set_cons_zero, List.set_cons_succ]
        refine takeW (i := 40) (d := 115) (v := .int .i64 (k : Int)) rfl rfl (by kernel_rfl) (by kernel_rfl) (by kernel_rfl) (fun _ _ _ h => h) (by rfl) ?_ (by assumption) ?_
        · intro x hSx
          have q0 := hSx
          go_simp
        simp only [Act.put, List.setIfInBounds_toArray, List.set_cons_zero, List.set_cons_succ]
        refine takeW (i := 41) (d := 116) (v := .pointer (some ⟨b, off + k, none⟩)) rfl rfl (by kernel_rfl) (by kernel_rfl) (by kernel_rfl) (fun _ _ _ h => h) (by rfl) ?_ (by assumption) ?_
        · intro x hSx
          have q0 := hSx
          go_simp
        simp only [Act.put, List.setIfInBounds_toArray, List.set_cons_zero, List.set_cons_succ]
        refine takeW (i := 42) (d := 117) (v := .int .i64 (P : Int)) rfl rfl (by kernel_rfl) (by kernel_rfl) (by kernel_rfl) (fun _ _ _ h => h) (by rfl) ?_ (by assumption) ?_
        · intro x hSx
          have q0 := hSx
          go_simp
        simp only [Act.put, List.setIfInBounds_toArray, List.set_cons_zero, List.set_cons_succ]
        refine takeW (i := 43) (d := 118) (v := .string Wb) rfl rfl (by kernel_rfl) (by kernel_rfl) (by kernel_rfl) (fun _ _ _ h => h) (by rfl) ?_ (by assumption) ?_
        · intro x hSx
          have q0 := hSx
          go_simp
        simp only [Act.put, List.setIfInBounds_toArray, List.set_cons_zero, List.set_cons_succ]
        refine takeW (i := 44) (d := 119) (v := .int .i64 (Wb.size : Int)) rfl rfl (by kernel_rfl) (by kernel_rfl) (by kernel_rfl) (fun _ _ _ h => h) (by rfl) ?_ (by assumption) ?_
        · intro x hSx
          have q0 := hSx
          go_simp
        simp only [Act.put, List.setIfInBounds_toArray, List.set_cons_zero, List.set_cons_succ]
        refine takeW (i := 45) (d := 120) (v := .int .i64 ((P : Int) + (Wb.size : Int))) rfl rfl (by kernel_rfl) (by kernel_rfl) (by kernel_rfl) (fun _ _ _ h => h) (by rfl) ?_ (by assumption) ?_
        · intro x hSx
          have q0 := hSx
          go_simp
        simp only [Act.put, List.setIfInBounds_toArray, List.set_cons_zero, List.set_cons_succ]
        refine takeW (i := 46) (d := 121) (v := .string Wb) rfl rfl (by kernel_rfl) (by kernel_rfl) (by kernel_rfl) (fun _ _ _ h => h) (by rfl) ?_ (by assumption) ?_
        · intro x hSx
          have q0 := hSx
          go_simp
        simp only [Act.put, List.setIfInBounds_toArray, List.set_cons_zero, List.set_cons_succ]
        refine takeW (i := 47) (d := 122) (v := .string Wb) rfl rfl (by kernel_rfl) (by kernel_rfl) (by kernel_rfl) (fun _ _ _ h => h) (by rfl) ?_ (by assumption) ?_
        · intro x hSx
          have q0 := hSx
          go_simp
        simp only [Act.put, List.setIfInBounds_toArray, List.set_cons_zero, List.set_cons_succ]
        refine takeW (i := 48) (d := 123) (v := .bool false) rfl rfl (by kernel_rfl) (by kernel_rfl) (by kernel_rfl) (fun _ _ _ h => h) (by rfl) ?_ (by assumption) ?_
        · intro x hSx
          have q0 := hSx
          go_simp
        simp only [Act.put, List.setIfInBounds_toArray, List.set_cons_zero, List.set_cons_succ]
        refine takeW (i := 49) (d := 124) (v := .bool false) rfl rfl (by kernel_rfl) (by kernel_rfl) (by kernel_rfl) (fun _ _ _ h => h) (by rfl) ?_ (by assumption) ?_
        · intro x hSx
          have q0 := hSx
          go_simp
        simp only [Act.put, List.setIfInBounds_toArray, List.set_cons_zero, List.set_cons_succ]
        refine wpAnyH_done (by kernel_rfl) ?_ _
        go_wp2_with fail
        go_roundw
        case rel => exact ⟨k + 1, by go_num, hide ⟨by omega, below_t5 HBL.out (below_drewN H8.out 1)⟩⟩
        case measure => simp [intOf]; omega
      have a1 : (0 : Int) ≤ (j : Int) := by omega
      have a3 : IntKind.i64.wrap ((k : Int) - 1) = (j : Int) := by rw [IntKind.wrap_i64]; omega
      have j6 : j < l.length + 1 := by omega
      have j7 : (j : Int) < (l.length : Int) + 1 := by omega
      have j8 : j ≤ l.length := by omega
      have a3b : IntKind.i64.wrap (j : Int) = (j : Int) := by rw [IntKind.wrap_i64]; omega
      have a7 : decide ((0 : Int) < (k : Int)) = true := by simp; omega
      have a7n : decide (0 < k) = true := by simp; omega
      have a7p : 0 < k := by omega
      have a8 : decide ((P : Int) ≤ z) = false := by simp; omega
      have j38 := (H8.out.cell (p := ⟨b, off + j, none⟩) hbw).trans j3
      clear j3
      go_region_held3 (fun y => y.cell? ⟨b, off + k, none⟩ = some (.int .i64 (P : Int)) ∧ y.cell? ⟨b, off + j, none⟩ = some (.int .i64 z)) (go_keep) ((fail))
      all_goals
        go_wp2_with fail
        go_roundw
        case rel => exact ⟨k + 1, by go_num, hide ⟨by omega, below_t5 HBL.out (below_drewN H8.out 1)⟩⟩
        case measure => simp [intOf]; omega
end Go.Proofs.YtlnkddmpcicejaaDoor
