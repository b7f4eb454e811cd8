/-
  RectAll, walked.
-/
import Derived.Test.YtaaajbpdnbhghaaR3AllAny
import Derived.Test.YtaaajbpdnbhghaaR3Holds
import Derived.Test.YtaaajbpdnbhghaaR3Wakes
import Derived.Deep.RegionHeld3
namespace Go.Proofs.Ytaaajbpdnbhghaa
open Go.RowKit

set_option maxHeartbeats 4000000 in
theorem rall_few (a : Option Addr) (n cap : Nat) (ys : List Int) (p : Bool) (v0 v1 v2 v3 : Int) (w : World)  (hz : ys.length = n * 4) (hn : n ≤ 200) (hL : Lst w a ys)
    (CA : Hid (∀ (w : World) (a : Option Addr) (cap : Nat), Lst w a ys → Calls Try.prog 24 #[.slice a n cap] w fun e w' => e = .returned (.tuple #[.agg #[.int .i64 v0, .int .i64 v1, .int .i64 v2, .int .i64 v3], .bool p]) ∧ Below w.heap.size w w'))
    (CB : Hid (∀ (w : World) (a : Option Addr) (cap : Nat), Lst w a ys → Calls Try.prog 25 #[.slice a n cap] w fun e w' => e = .returned (.tuple #[.agg #[.int .i64 v0, .int .i64 v1, .int .i64 v2, .int .i64 v3], .bool p]) ∧ Below w.heap.size w w'))
    (CH : Hid (p = true → ∀ (i : Nat) (w : World), i < n → Calls Try.prog 13 #[.agg #[.int .i64 v0, .int .i64 v1, .int .i64 v2, .int .i64 v3], .agg #[.int .i64 (sd ys i 0), .int .i64 (sd ys i 1), .int .i64 (sd ys i 2), .int .i64 (sd ys i 3)]] w fun e w' => e = .returned (.bool true) ∧ Below w.heap.size w w')) :
    Calls Try.prog 6 #[.slice a n cap] w fun e w' => e = .returned (.bool true) ∧ Below w.heap.size w w' := by
  obtain ⟨g, c', w1, hr, hB1, hg1, hg2, hc1, hc2, hL1⟩ := copy_any w a n cap ys hz hn hL
  replace hr := hide hr
  have HL := hide (hL.below hB1)
  have HM := hide hL1
  have HB := hide hB1
  have Hz := hide hz
  have Hg := hide (And.intro hg1 hg2)
  have t2 : (n : Int) ≤ 200 := by omega
  have t1 : decide ((200 : Int) < (n : Int)) = false := by simp; omega
  clear hL hL1 hB1 hz hg1 hg2 hc1 hc2
  go_enter Try.func6, Try.ntmps6
  go_wp2_with (at_builtin; refine Lib.wpList_append_run _ rfl _ _ _ _ rfl _ _ rfl rfl _ _ hr.out ?_)
  refine (CA.out _ _ _ HM.out).mono ?_; rintro e x1 ⟨rfl, hb⟩
  have HL2 := hide ((HL.out.below hb).below ((Below.refl _ _).alloc (Nat.le_refl _) (.cells #[.int .i64 v0, .int .i64 v1, .int .i64 v2, .int .i64 v3] 23)))
  have HM2 := hide ((HM.out.below hb).below ((Below.refl _ _).alloc (Nat.le_refl _) (.cells #[.int .i64 v0, .int .i64 v1, .int .i64 v2, .int .i64 v3] 23)))
  have HB2 := hide (below_tr (below_tr HB.out hb) ((Below.refl _ _).alloc (Nat.le_refl _) (.cells #[.int .i64 v0, .int .i64 v1, .int .i64 v2, .int .i64 v3] 23)))
  have A := hide (box4_new x1 23 v0 v1 v2 v3)
  clear hb HL HM HB
  go_wp2_with fail
  refine (CB.out _ _ _ HL2.out).mono ?_; rintro e x2 ⟨rfl, hb⟩
  have HL3 := (HL2.out.below hb).below ((Below.refl _ _).alloc (Nat.le_refl _) (.cells #[.int .i64 v0, .int .i64 v1, .int .i64 v2, .int .i64 v3] 23))
  have HM3 := (HM2.out.below hb).below ((Below.refl _ _).alloc (Nat.le_refl _) (.cells #[.int .i64 v0, .int .i64 v1, .int .i64 v2, .int .i64 v3] 23))
  have HB3 := below_tr (below_tr HB2.out hb) ((Below.refl _ _).alloc (Nat.le_refl _) (.cells #[.int .i64 v0, .int .i64 v1, .int .i64 v2, .int .i64 v3] 23))
  have A3 := (A.out.below hb).alloc (.cells #[.int .i64 v0, .int .i64 v1, .int .i64 v2, .int .i64 v3] 23)
  have B3 := box4_new x2 23 v0 v1 v2 v3
  clear hb HL2 HM2 HB2 A
  generalize hV : x2.alloc (.cells #[.int .i64 v0, .int .i64 v1, .int .i64 v2, .int .i64 v3] 23) = V at HL3 HM3 HB3 A3 B3
  replace HL3 := hide HL3
  replace HM3 := hide HM3
  replace HB3 := hide HB3
  replace A3 := hide A3
  replace B3 := hide B3
  have HV := hide hV
  clear hV CA CB hr
  go_wp2_with fail
  go_loopw [8] (fun vi wr => ∃ (k : Nat), vi = .int .i64 k ∧ Hid (k ≤ n ∧ Below V.heap.size V wr)) (fun vi _ => n - (intOf vi).toNat)
  case atStart => exact ⟨0, rfl, hide ⟨by omega, HV.out ▸ Below.refl _ _⟩⟩
  case round =>
    obtain ⟨k, rfl, HR⟩ := hrel
    obtain ⟨hk, hbel⟩ := HR.out
    clear HR
    have HW := hide hbel
    obtain ⟨zA, a0, a1, a2, a3⟩ := A3.out.below hbel
    by_cases hlt : k < n
    · have hlt' : (k : Int) < (n : Int) := by omega
      have hk0 : (0 : Int) ≤ (k : Int) := by omega
      have hz := Hz.out
      rcases HL3.out with h | ⟨b, off, rfl, hb, hcell⟩
      · have h9 : ys.length = 0 := by rw [h]; rfl
        omega
      rcases HM3.out with h | ⟨gb, goff, hge, hgb, gcell⟩
      · have h9 : ys.length = 0 := by rw [h]; rfl
        omega
      simp only [Option.some.injEq, Addr.mk.injEq] at hge
      obtain ⟨rfl, rfl, _⟩ := hge
      obtain ⟨c0, c1, c2, c3⟩ := cells4 hz hcell k hlt
      obtain ⟨d0, d1, d2, d3⟩ := cells4 hz gcell k hlt
      rw [← hbel.cell (p := ⟨b, _, none⟩) hb] at c0 c1 c2 c3
      rw [← hbel.cell (p := ⟨g, _, none⟩) hgb] at d0 d1 d2 d3
      simp only [Nat.zero_add] at d0 d1 d2 d3
      have C := fun hp w => CH.out hp k w hlt
      clear hcell gcell hz CH
      generalize sd ys k 0 = s0 at *
      generalize sd ys k 1 = s1 at *
      generalize sd ys k 2 = s2 at *
      generalize sd ys k 3 = s3 at *
      cases p
      · clear hbel C
        go_wp2_with fail
        go_quiet (fail)
        go_wp2_with fail
        go_roundw
        case rel => exact ⟨k + 1, by go_num, hide ⟨by omega, below_drewN HW.out _⟩⟩
        case measure => simp [intOf]; omega
      · have KS : ∀ x, Below wr.heap.size wr x → (x.cell? ⟨g, k * 4, none⟩ = some (.int .i64 s0) ∧ x.cell? ⟨g, k * 4 + 1, none⟩ = some (.int .i64 s1) ∧ x.cell? ⟨g, k * 4 + 2, none⟩ = some (.int .i64 s2) ∧ x.cell? ⟨g, k * 4 + 3, none⟩ = some (.int .i64 s3) ∧ x.cell? ⟨b, off + k * 4, none⟩ = some (.int .i64 s0) ∧ x.cell? ⟨b, off + k * 4 + 1, none⟩ = some (.int .i64 s1) ∧ x.cell? ⟨b, off + k * 4 + 2, none⟩ = some (.int .i64 s2) ∧ x.cell? ⟨b, off + k * 4 + 3, none⟩ = some (.int .i64 s3) ∧ x.cell? ⟨x1.heap.size, 0, none⟩ = some (.int .i64 v0) ∧ x.cell? ⟨x1.heap.size, 1, none⟩ = some (.int .i64 v1) ∧ x.cell? ⟨x1.heap.size, 2, none⟩ = some (.int .i64 v2) ∧ x.cell? ⟨x1.heap.size, 3, none⟩ = some (.int .i64 v3)) := by
          intro x hx
          have zb : b < wr.heap.size := Nat.lt_of_lt_of_le hb hbel.size
          have zg : g < wr.heap.size := Nat.lt_of_lt_of_le hgb hbel.size
          exact ⟨by rw [hx.cell (p := ⟨g, _, none⟩) zg]; exact d0, by rw [hx.cell (p := ⟨g, _, none⟩) zg]; exact d1, by rw [hx.cell (p := ⟨g, _, none⟩) zg]; exact d2, by rw [hx.cell (p := ⟨g, _, none⟩) zg]; exact d3, by rw [hx.cell (p := ⟨b, _, none⟩) zb]; exact c0, by rw [hx.cell (p := ⟨b, _, none⟩) zb]; exact c1, by rw [hx.cell (p := ⟨b, _, none⟩) zb]; exact c2, by rw [hx.cell (p := ⟨b, _, none⟩) zb]; exact c3, by rw [hx.cell (p := ⟨x1.heap.size, _, none⟩) zA]; exact a0, by rw [hx.cell (p := ⟨x1.heap.size, _, none⟩) zA]; exact a1, by rw [hx.cell (p := ⟨x1.heap.size, _, none⟩) zA]; exact a2, by rw [hx.cell (p := ⟨x1.heap.size, _, none⟩) zA]; exact a3⟩
        replace KS := hide KS
        replace C := hide (C rfl)
        have HX := hide (Below.refl wr.heap.size wr)
        clear hbel
        go_wp2_with fail
        rename_i k0
        have HK := hide k0
        clear k0
        go_region_held3 (fun x => x.cell? ⟨g, k * 4, none⟩ = some (.int .i64 s0) ∧ x.cell? ⟨g, k * 4 + 1, none⟩ = some (.int .i64 s1) ∧ x.cell? ⟨g, k * 4 + 2, none⟩ = some (.int .i64 s2) ∧ x.cell? ⟨g, k * 4 + 3, none⟩ = some (.int .i64 s3) ∧ x.cell? ⟨b, off + k * 4, none⟩ = some (.int .i64 s0) ∧ x.cell? ⟨b, off + k * 4 + 1, none⟩ = some (.int .i64 s1) ∧ x.cell? ⟨b, off + k * 4 + 2, none⟩ = some (.int .i64 s2) ∧ x.cell? ⟨b, off + k * 4 + 3, none⟩ = some (.int .i64 s3) ∧ x.cell? ⟨x1.heap.size, 0, none⟩ = some (.int .i64 v0) ∧ x.cell? ⟨x1.heap.size, 1, none⟩ = some (.int .i64 v1) ∧ x.cell? ⟨x1.heap.size, 2, none⟩ = some (.int .i64 v2) ∧ x.cell? ⟨x1.heap.size, 3, none⟩ = some (.int .i64 v3)) (first | exact KS.out _ (below_d HX.out (Below.refl _ _) rfl rfl rfl rfl) | go_keep) ((go_at_call 13; refine (C.out _).mono ?_; rintro e x ⟨rfl, hbx⟩; replace HX := hide (below_d HX.out hbx rfl rfl rfl rfl); clear hbx))
        all_goals
          refine HK.out _ _ ?_
          go_wp2_with fail
          go_roundw
          case rel => exact ⟨k + 1, by go_num, hide ⟨by omega, below_tr HW.out (below_d HX.out (Below.refl _ _) rfl rfl rfl rfl)⟩⟩
          case measure => simp [intOf]; omega
    · have hlt' : ¬ (k : Int) < (n : Int) := by omega
      obtain ⟨zB, b0, b1, b2, b3⟩ := B3.out.below hbel
      clear hbel
      go_wp2_with fail
      refine (wakes3_any _).mono ?_; rintro e x3 ⟨rfl, hb⟩
      go_wp2_with fail
      go_ret
      exact ⟨rfl, below_tr (below_tr HB3.out HW.out) hb⟩
set_option maxHeartbeats 4000000 in
theorem rall_many (a : Option Addr) (len cap : Nat) (ys : List Int) (p : Bool) (v0 v1 v2 v3 : Int) (w : World) (hlen : 200 < len) (hcap : len ≤ cap) (hz : ys.length = 200 * 4) (hL : Lst w a ys)
    (CA : Hid (∀ (w : World) (a : Option Addr) (cap : Nat), Lst w a ys → Calls Try.prog 24 #[.slice a 200 cap] w fun e w' => e = .returned (.tuple #[.agg #[.int .i64 v0, .int .i64 v1, .int .i64 v2, .int .i64 v3], .bool p]) ∧ Below w.heap.size w w'))
    (CB : Hid (∀ (w : World) (a : Option Addr) (cap : Nat), Lst w a ys → Calls Try.prog 25 #[.slice a 200 cap] w fun e w' => e = .returned (.tuple #[.agg #[.int .i64 v0, .int .i64 v1, .int .i64 v2, .int .i64 v3], .bool p]) ∧ Below w.heap.size w w'))
    (CH : Hid (p = true → ∀ (i : Nat) (w : World), i < 200 → Calls Try.prog 13 #[.agg #[.int .i64 v0, .int .i64 v1, .int .i64 v2, .int .i64 v3], .agg #[.int .i64 (sd ys i 0), .int .i64 (sd ys i 1), .int .i64 (sd ys i 2), .int .i64 (sd ys i 3)]] w fun e w' => e = .returned (.bool true) ∧ Below w.heap.size w w')) :
    Calls Try.prog 6 #[.slice a len cap] w fun e w' => e = .returned (.bool true) ∧ Below w.heap.size w w' := by
  obtain ⟨g, c', w1, hr, hB1, hg1, hg2, hc1, hc2, hL1⟩ := copy_any w a 200 cap ys hz (Nat.le_refl _) hL
  replace hr := hide hr
  have HL := hide (hL.below hB1)
  have HM := hide hL1
  have HB := hide hB1
  have Hz := hide hz
  have Hg := hide (And.intro hg1 hg2)
  have t1 : decide ((200 : Int) < (len : Int)) = true := by simp; omega
  have t3 : (200 : Int) ≤ (cap : Int) := by omega
  clear hL hL1 hB1 hz hg1 hg2 hc1 hc2
  go_enter Try.func6, Try.ntmps6
  go_wp2_with (at_builtin; refine Lib.wpList_append_run _ rfl _ _ _ _ rfl _ _ rfl rfl _ _ hr.out ?_)
  refine (CA.out _ _ _ HM.out).mono ?_; rintro e x1 ⟨rfl, hb⟩
  have HL2 := hide ((HL.out.below hb).below ((Below.refl _ _).alloc (Nat.le_refl _) (.cells #[.int .i64 v0, .int .i64 v1, .int .i64 v2, .int .i64 v3] 23)))
  have HM2 := hide ((HM.out.below hb).below ((Below.refl _ _).alloc (Nat.le_refl _) (.cells #[.int .i64 v0, .int .i64 v1, .int .i64 v2, .int .i64 v3] 23)))
  have HB2 := hide (below_tr (below_tr HB.out hb) ((Below.refl _ _).alloc (Nat.le_refl _) (.cells #[.int .i64 v0, .int .i64 v1, .int .i64 v2, .int .i64 v3] 23)))
  have A := hide (box4_new x1 23 v0 v1 v2 v3)
  clear hb HL HM HB
  go_wp2_with fail
  refine (CB.out _ _ _ HL2.out).mono ?_; rintro e x2 ⟨rfl, hb⟩
  have HL3 := (HL2.out.below hb).below ((Below.refl _ _).alloc (Nat.le_refl _) (.cells #[.int .i64 v0, .int .i64 v1, .int .i64 v2, .int .i64 v3] 23))
  have HM3 := (HM2.out.below hb).below ((Below.refl _ _).alloc (Nat.le_refl _) (.cells #[.int .i64 v0, .int .i64 v1, .int .i64 v2, .int .i64 v3] 23))
  have HB3 := below_tr (below_tr HB2.out hb) ((Below.refl _ _).alloc (Nat.le_refl _) (.cells #[.int .i64 v0, .int .i64 v1, .int .i64 v2, .int .i64 v3] 23))
  have A3 := (A.out.below hb).alloc (.cells #[.int .i64 v0, .int .i64 v1, .int .i64 v2, .int .i64 v3] 23)
  have B3 := box4_new x2 23 v0 v1 v2 v3
  clear hb HL2 HM2 HB2 A
  generalize hV : x2.alloc (.cells #[.int .i64 v0, .int .i64 v1, .int .i64 v2, .int .i64 v3] 23) = V at HL3 HM3 HB3 A3 B3
  replace HL3 := hide HL3
  replace HM3 := hide HM3
  replace HB3 := hide HB3
  replace A3 := hide A3
  replace B3 := hide B3
  have HV := hide hV
  clear hV CA CB hr
  go_wp2_with fail
  go_loopw [8] (fun vi wr => ∃ (k : Nat), vi = .int .i64 k ∧ Hid (k ≤ 200 ∧ Below V.heap.size V wr)) (fun vi _ => 200 - (intOf vi).toNat)
  case atStart => exact ⟨0, rfl, hide ⟨by omega, HV.out ▸ Below.refl _ _⟩⟩
  case round =>
    obtain ⟨k, rfl, HR⟩ := hrel
    obtain ⟨hk, hbel⟩ := HR.out
    clear HR
    have HW := hide hbel
    obtain ⟨zA, a0, a1, a2, a3⟩ := A3.out.below hbel
    by_cases hlt : k < 200
    · have hlt' : (k : Int) < (200 : Int) := by omega
      have hk0 : (0 : Int) ≤ (k : Int) := by omega
      have hz := Hz.out
      rcases HL3.out with h | ⟨b, off, rfl, hb, hcell⟩
      · have h9 : ys.length = 0 := by rw [h]; rfl
        omega
      rcases HM3.out with h | ⟨gb, goff, hge, hgb, gcell⟩
      · have h9 : ys.length = 0 := by rw [h]; rfl
        omega
      simp only [Option.some.injEq, Addr.mk.injEq] at hge
      obtain ⟨rfl, rfl, _⟩ := hge
      obtain ⟨c0, c1, c2, c3⟩ := cells4 hz hcell k hlt
      obtain ⟨d0, d1, d2, d3⟩ := cells4 hz gcell k hlt
      rw [← hbel.cell (p := ⟨b, _, none⟩) hb] at c0 c1 c2 c3
      rw [← hbel.cell (p := ⟨g, _, none⟩) hgb] at d0 d1 d2 d3
      simp only [Nat.zero_add] at d0 d1 d2 d3
      have C := fun hp w => CH.out hp k w hlt
      clear hcell gcell hz CH
      generalize sd ys k 0 = s0 at *
      generalize sd ys k 1 = s1 at *
      generalize sd ys k 2 = s2 at *
      generalize sd ys k 3 = s3 at *
      cases p
      · clear hbel C
        go_wp2_with fail
        go_quiet (fail)
        go_wp2_with fail
        go_roundw
        case rel => exact ⟨k + 1, by go_num, hide ⟨by omega, below_drewN HW.out _⟩⟩
        case measure => simp [intOf]; omega
      · have KS : ∀ x, Below wr.heap.size wr x → (x.cell? ⟨g, k * 4, none⟩ = some (.int .i64 s0) ∧ x.cell? ⟨g, k * 4 + 1, none⟩ = some (.int .i64 s1) ∧ x.cell? ⟨g, k * 4 + 2, none⟩ = some (.int .i64 s2) ∧ x.cell? ⟨g, k * 4 + 3, none⟩ = some (.int .i64 s3) ∧ x.cell? ⟨b, off + k * 4, none⟩ = some (.int .i64 s0) ∧ x.cell? ⟨b, off + k * 4 + 1, none⟩ = some (.int .i64 s1) ∧ x.cell? ⟨b, off + k * 4 + 2, none⟩ = some (.int .i64 s2) ∧ x.cell? ⟨b, off + k * 4 + 3, none⟩ = some (.int .i64 s3) ∧ x.cell? ⟨x1.heap.size, 0, none⟩ = some (.int .i64 v0) ∧ x.cell? ⟨x1.heap.size, 1, none⟩ = some (.int .i64 v1) ∧ x.cell? ⟨x1.heap.size, 2, none⟩ = some (.int .i64 v2) ∧ x.cell? ⟨x1.heap.size, 3, none⟩ = some (.int .i64 v3)) := by
          intro x hx
          have zb : b < wr.heap.size := Nat.lt_of_lt_of_le hb hbel.size
          have zg : g < wr.heap.size := Nat.lt_of_lt_of_le hgb hbel.size
          exact ⟨by rw [hx.cell (p := ⟨g, _, none⟩) zg]; exact d0, by rw [hx.cell (p := ⟨g, _, none⟩) zg]; exact d1, by rw [hx.cell (p := ⟨g, _, none⟩) zg]; exact d2, by rw [hx.cell (p := ⟨g, _, none⟩) zg]; exact d3, by rw [hx.cell (p := ⟨b, _, none⟩) zb]; exact c0, by rw [hx.cell (p := ⟨b, _, none⟩) zb]; exact c1, by rw [hx.cell (p := ⟨b, _, none⟩) zb]; exact c2, by rw [hx.cell (p := ⟨b, _, none⟩) zb]; exact c3, by rw [hx.cell (p := ⟨x1.heap.size, _, none⟩) zA]; exact a0, by rw [hx.cell (p := ⟨x1.heap.size, _, none⟩) zA]; exact a1, by rw [hx.cell (p := ⟨x1.heap.size, _, none⟩) zA]; exact a2, by rw [hx.cell (p := ⟨x1.heap.size, _, none⟩) zA]; exact a3⟩
        replace KS := hide KS
        replace C := hide (C rfl)
        have HX := hide (Below.refl wr.heap.size wr)
        clear hbel
        go_wp2_with fail
        rename_i k0
        have HK := hide k0
        clear k0
        go_region_held3 (fun x => x.cell? ⟨g, k * 4, none⟩ = some (.int .i64 s0) ∧ x.cell? ⟨g, k * 4 + 1, none⟩ = some (.int .i64 s1) ∧ x.cell? ⟨g, k * 4 + 2, none⟩ = some (.int .i64 s2) ∧ x.cell? ⟨g, k * 4 + 3, none⟩ = some (.int .i64 s3) ∧ x.cell? ⟨b, off + k * 4, none⟩ = some (.int .i64 s0) ∧ x.cell? ⟨b, off + k * 4 + 1, none⟩ = some (.int .i64 s1) ∧ x.cell? ⟨b, off + k * 4 + 2, none⟩ = some (.int .i64 s2) ∧ x.cell? ⟨b, off + k * 4 + 3, none⟩ = some (.int .i64 s3) ∧ x.cell? ⟨x1.heap.size, 0, none⟩ = some (.int .i64 v0) ∧ x.cell? ⟨x1.heap.size, 1, none⟩ = some (.int .i64 v1) ∧ x.cell? ⟨x1.heap.size, 2, none⟩ = some (.int .i64 v2) ∧ x.cell? ⟨x1.heap.size, 3, none⟩ = some (.int .i64 v3)) (first | exact KS.out _ (below_d HX.out (Below.refl _ _) rfl rfl rfl rfl) | go_keep) ((go_at_call 13; refine (C.out _).mono ?_; rintro e x ⟨rfl, hbx⟩; replace HX := hide (below_d HX.out hbx rfl rfl rfl rfl); clear hbx))
        all_goals
          refine HK.out _ _ ?_
          go_wp2_with fail
          go_roundw
          case rel => exact ⟨k + 1, by go_num, hide ⟨by omega, below_tr HW.out (below_d HX.out (Below.refl _ _) rfl rfl rfl rfl)⟩⟩
          case measure => simp [intOf]; omega
    · have hlt' : ¬ (k : Int) < (200 : Int) := by omega
      obtain ⟨zB, b0, b1, b2, b3⟩ := B3.out.below hbel
      clear hbel
      go_wp2_with fail
      refine (wakes3_any _).mono ?_; rintro e x3 ⟨rfl, hb⟩
      go_wp2_with fail
      go_ret
      exact ⟨rfl, below_tr (below_tr HB3.out HW.out) hb⟩
theorem held_any (zs : List Int) (n : Nat) (hp : allB zs n = true) (i : Nat) (w : World) (hi : i < n) :
    Calls Try.prog 13 #[.agg #[.int .i64 (tl (allB zs n) (ac0 zs (n - 1))), .int .i64 (tl (allB zs n) (ac1 zs (n - 1))), .int .i64 (tl (allB zs n) (ac2 zs (n - 1))), .int .i64 (tl (allB zs n) (ac3 zs (n - 1)))], .agg #[.int .i64 (sd zs i 0), .int .i64 (sd zs i 1), .int .i64 (sd zs i 2), .int .i64 (sd zs i 3)]] w fun e w' => e = .returned (.bool true) ∧ Below w.heap.size w w' := by
  simp only [tl_t hp]
  have h := holds_any (ac0 zs (n - 1)) (ac1 zs (n - 1)) (ac2 zs (n - 1)) (ac3 zs (n - 1)) (sd zs i 0) (sd zs i 1) (sd zs i 2) (sd zs i 3) w
  have hm : mayAll zs (n - 1 + 1) = true := by
    rw [show n - 1 + 1 = n by omega]
    unfold allB at hp
    simp only [Bool.and_eq_true] at hp
    exact hp.2
  rw [acc_holds hm (by omega)] at h
  exact h
end Go.Proofs.Ytaaajbpdnbhghaa
