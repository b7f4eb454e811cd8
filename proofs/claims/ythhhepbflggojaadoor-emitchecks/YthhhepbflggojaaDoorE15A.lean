/-
  What slices.Equal, keep.Same answer of any two lists of ints; which glyphs are none.
-/
import Derived.Test.YthhhepbflggojaaDoorE15P
import Derived.WalkKit
import Derived.RegionTactic
import Derived.ChangeAlike
import Derived.Deep.QuietTactic
import Derived.BigQuiet
namespace Go.Proofs.YthhhepbflggojaaDoor.E15
open Go.RowKit Go.Deep
set_option linter.unusedVariables false
set_option linter.unusedSimpArgs false

set_option maxHeartbeats 1000000 in
theorem eqs_any (a b : Option Addr) (n m ca cb : Nat) (xs ys : List Int) (R : Bool) (w : World) (hn : xs.length = n) (hm : ys.length = m) (h1 : n ≤ 1048576) (h2 : m ≤ 1048576) (hA : Lst w a xs) (hB : Lst w b ys) (hR : decide (xs = ys) = R) :
    Calls Tryd.prog 33 #[.slice a n ca, .slice b m cb] w fun e w' => e = .returned (.bool R) ∧ ∃ q, w' = w.drewN q := by
  by_cases hnm : n = m
  case neg =>
    have hRf : R = false := by rw [← hR]; simp; intro e; rw [e] at hn; omega
    subst hRf
    have t0 : ((n : Int) != (m : Int)) = true := by simp; omega
    clear hA hB hR
    go_enter Tryd.func33, Tryd.ntmps33
    go_wp2_with fail
    go_ret
    exact ⟨rfl, 0, rfl⟩
  subst hnm
  have HA := hide hA
  have HB := hide hB
  have Hn := hide hn
  have Hm := hide hm
  have HR := hide hR
  have h5 : (n : Int) ≤ 1048576 := by omega
  have t0 : ((n : Int) != (n : Int)) = false := by simp
  clear hA hB hn hm hR h1 h2
  go_enter Tryd.func33, Tryd.ntmps33
  go_wp2_with fail
  go_loopw [13] (fun vi wr => ∃ (k q : Nat), vi = .int .i64 k ∧ wr = w.drewN q ∧ Hid (k ≤ n ∧ ∀ i, i < k → xs.getD i 0 = ys.getD i 0)) (fun vi _ => n - (intOf vi).toNat)
  case atStart => exact ⟨0, 0, rfl, rfl, hide ⟨by omega, fun i hi => by omega⟩⟩
  case round =>
    obtain ⟨k, q, rfl, rfl, HK⟩ := hrel
    by_cases hlt : k < n
    · have hlt' : (k : Int) < (n : Int) := by omega
      have hn := Hn.out
      have hm := Hm.out
      rcases HA.out with hz | ⟨b1, o1, rfl, hb1, hcell1⟩
      · rw [hz] at hn; simp at hn; omega
      rcases HB.out with hz | ⟨b2, o2, rfl, hb2, hcell2⟩
      · rw [hz] at hm; simp at hm; omega
      have hc1 := hcell1 k (by omega)
      have hc2 := hcell2 k (by omega)
      obtain ⟨x, hx⟩ : ∃ x, xs.getD k 0 = x := ⟨_, rfl⟩
      obtain ⟨y, hy⟩ : ∃ y, ys.getD k 0 = y := ⟨_, rfl⟩
      rw [hx] at hc1
      rw [hy] at hc2
      have HX := hide hx
      have HY := hide hy
      clear hcell1 hcell2 hn hm hx hy
      by_cases hxy : x = y
      · subst hxy
        have HK2 := hide (show k + 1 ≤ n ∧ ∀ i, i < k + 1 → xs.getD i 0 = ys.getD i 0 from ⟨by omega, fun i hi => by
          rcases Nat.lt_or_ge i k with h | h
          · exact HK.out.2 i h
          · obtain rfl : i = k := by omega
            rw [HX.out, HY.out]⟩)
        clear HX HY HK
        go_wp2_with fail
        go_quiet (fail)
        go_wp2
        go_roundw
        case rel => exact ⟨k + 1, _, by go_num, rfl, HK2⟩
        case measure => simp [intOf]; omega
      · have hne : (x != y) = true := by simpa using hxy
        have hRf : R = false := by
          rw [← HR.out]; simp; intro e
          apply hxy
          rw [← HX.out, ← HY.out, e]
        subst hRf
        clear HX HY HK hxy HR
        go_wp2_with fail
        go_quiet (fail)
        go_wp2
        go_ret
        exact ⟨rfl, _, World.drewN_drewN _ _ _⟩
    · have hlt' : ¬ (k : Int) < (n : Int) := by omega
      have hRt : R = true := by
        rw [← HR.out]; simp
        exact ext_zs (by rw [Hn.out, Hm.out]) (fun i hi => HK.out.2 i (by have := Hn.out; omega))
      subst hRt
      clear HR HK
      go_wp2
      go_ret
      exact ⟨rfl, q, rfl⟩
set_option maxHeartbeats 1000000 in
theorem ksm_any (a b : Option Addr) (n m ca cb : Nat) (xs ys : List Int) (R : Bool) (w : World) (hn : xs.length = n) (hm : ys.length = m) (h1 : n ≤ 1048576) (h2 : m ≤ 1048576) (hA : Lst w a xs) (hB : Lst w b ys) (hR : decide (xs = ys) = R) :
    Calls Tryd.prog 34 #[.slice a n ca, .slice b m cb] w fun e w' => e = .returned (.bool R) ∧ ∃ q, w' = w.drewN q := by
  by_cases hnm : n = m
  case neg =>
    have hRf : R = false := by rw [← hR]; simp; intro e; rw [e] at hn; omega
    subst hRf
    have t0 : ((n : Int) != (m : Int)) = true := by simp; omega
    clear hA hB hR
    go_enter Tryd.func34, Tryd.ntmps34
    go_wp2_with fail
    go_ret
    exact ⟨rfl, 0, rfl⟩
  subst hnm
  have HA := hide hA
  have HB := hide hB
  have Hn := hide hn
  have Hm := hide hm
  have HR := hide hR
  have h5 : (n : Int) ≤ 1048576 := by omega
  have t0 : ((n : Int) != (n : Int)) = false := by simp
  clear hA hB hn hm hR h1 h2
  go_enter Tryd.func34, Tryd.ntmps34
  go_wp2_with fail
  go_loopw [5] (fun vi wr => ∃ (k q : Nat), vi = .int .i64 k ∧ wr = w.drewN q ∧ Hid (k ≤ n ∧ ∀ i, i < k → xs.getD i 0 = ys.getD i 0)) (fun vi _ => n - (intOf vi).toNat)
  case atStart => exact ⟨0, 0, rfl, rfl, hide ⟨by omega, fun i hi => by omega⟩⟩
  case round =>
    obtain ⟨k, q, rfl, rfl, HK⟩ := hrel
    by_cases hlt : k < n
    · have hlt' : (k : Int) < (n : Int) := by omega
      have hn := Hn.out
      have hm := Hm.out
      rcases HA.out with hz | ⟨b1, o1, rfl, hb1, hcell1⟩
      · rw [hz] at hn; simp at hn; omega
      rcases HB.out with hz | ⟨b2, o2, rfl, hb2, hcell2⟩
      · rw [hz] at hm; simp at hm; omega
      have hc1 := hcell1 k (by omega)
      have hc2 := hcell2 k (by omega)
      obtain ⟨x, hx⟩ : ∃ x, xs.getD k 0 = x := ⟨_, rfl⟩
      obtain ⟨y, hy⟩ : ∃ y, ys.getD k 0 = y := ⟨_, rfl⟩
      rw [hx] at hc1
      rw [hy] at hc2
      have HX := hide hx
      have HY := hide hy
      clear hcell1 hcell2 hn hm hx hy
      by_cases hxy : x = y
      · subst hxy
        have HK2 := hide (show k + 1 ≤ n ∧ ∀ i, i < k + 1 → xs.getD i 0 = ys.getD i 0 from ⟨by omega, fun i hi => by
          rcases Nat.lt_or_ge i k with h | h
          · exact HK.out.2 i h
          · obtain rfl : i = k := by omega
            rw [HX.out, HY.out]⟩)
        clear HX HY HK
        go_wp2_with fail
        go_quiet (fail)
        go_wp2
        go_roundw
        case rel => exact ⟨k + 1, _, by go_num, rfl, HK2⟩
        case measure => simp [intOf]; omega
      · have hne : (x != y) = true := by simpa using hxy
        have hRf : R = false := by
          rw [← HR.out]; simp; intro e
          apply hxy
          rw [← HX.out, ← HY.out, e]
        subst hRf
        clear HX HY HK hxy HR
        go_wp2_with fail
        go_quiet (fail)
        go_wp2
        go_ret
        exact ⟨rfl, _, World.drewN_drewN _ _ _⟩
    · have hlt' : ¬ (k : Int) < (n : Int) := by omega
      have hRt : R = true := by
        rw [← HR.out]; simp
        exact ext_zs (by rw [Hn.out, Hm.out]) (fun i hi => HK.out.2 i (by have := Hn.out; omega))
      subst hRt
      clear HR HK
      go_wp2
      go_ret
      exact ⟨rfl, q, rfl⟩

theorem nog_any (g : Int) (w : World) : Calls Tryd.prog 42 #[.int .i64 g] w fun e w' => e = .returned (.bool (noG g)) ∧ w' = w := by
  obtain ⟨R, hR⟩ : ∃ R, noG g = R := ⟨_, rfl⟩
  rw [hR]
  unfold noG at hR
  cases h0 : decide (g < 0)
  · cases h1 : decide (65535 < g)
    · obtain rfl : R = false := by rw [← hR, h0, h1]; rfl
      have h0' : ¬ g < 0 := by simpa using h0
      clear hR
      go_enter Tryd.func42, Tryd.ntmps42
      go_wp2
      go_ret
      exact ⟨rfl, rfl⟩
    · obtain rfl : R = true := by rw [← hR, h0, h1]; rfl
      have h0' : ¬ g < 0 := by simpa using h0
      clear hR
      go_enter Tryd.func42, Tryd.ntmps42
      go_wp2
      go_ret
      exact ⟨rfl, rfl⟩
  · obtain rfl : R = true := by rw [← hR, h0]; rfl
    have h0' : g < 0 := by simpa using h0
    clear hR
    go_enter Tryd.func42, Tryd.ntmps42
    go_wp2
    go_ret
    exact ⟨rfl, rfl⟩
/- IndexFunc with noGlyph: from 0 on just if there is one -/
set_option maxHeartbeats 1000000 in
theorem index_any (a : Option Addr) (n c : Nat) (zs : List Int) (w : World) (hn : zs.length = n) (h1 : n ≤ 1048576) (hA : Lst w a zs) :
    Calls Tryd.prog 51 #[.slice a n c, .func (.func 42) #[] #[]] w fun e w' => (∃ z : Int, e = .returned (.int .i64 z) ∧ decide (0 ≤ z) = zs.any noG) ∧ w' = w := by
  obtain ⟨R, hR⟩ : ∃ R, zs.any noG = R := ⟨_, rfl⟩
  rw [hR]
  have HR := hide hR
  have HA := hide hA
  have Hn := hide hn
  have CN := hide nog_any
  have h5 : (n : Int) ≤ 1048576 := by omega
  clear hA hn h1 hR
  go_enter Tryd.func51, Tryd.ntmps51
  go_wp2_with fail
  go_loopw [8] (fun vi wr => ∃ (k : Nat), vi = .int .i64 k ∧ wr = w ∧ Hid (k ≤ n ∧ ∀ i, i < k → noG (zs.getD i 0) = false)) (fun vi _ => n - (intOf vi).toNat)
  case atStart => exact ⟨0, rfl, rfl, hide ⟨by omega, fun i hi => by omega⟩⟩
  case round =>
    obtain ⟨k, rfl, hw, HK⟩ := hrel
    replace hw := hw.symm
    subst hw
    have hk0 : (0 : Int) ≤ (k : Int) := by omega
    by_cases hlt : k < n
    · have hlt' : (k : Int) < (n : Int) := by omega
      have hn := Hn.out
      rcases HA.out with hz | ⟨b1, o1, rfl, hb1, hcell1⟩
      · rw [hz] at hn; simp at hn; omega
      have hc1 := hcell1 k (by omega)
      obtain ⟨x, hx⟩ : ∃ x, zs.getD k 0 = x := ⟨_, rfl⟩
      rw [hx] at hc1
      have HX := hide hx
      have C1 := hide (CN.out x)
      clear hcell1 hn hx
      cases hg : noG x
      · rw [hg] at C1
        have HK2 := hide (show k + 1 ≤ n ∧ ∀ i, i < k + 1 → noG (zs.getD i 0) = false from ⟨by omega, fun i hi => by
          rcases Nat.lt_or_ge i k with h | h
          · exact HK.out.2 i h
          · obtain rfl : i = k := by omega
            rw [HX.out]; exact hg⟩)
        clear HX HK hg
        go_wp2_with fail
        refine (C1.out _).mono ?_
        rintro e w2 ⟨rfl, rfl⟩
        go_wp2_with fail
        go_roundw
        case rel => exact ⟨k + 1, by go_num, by first | rfl | trivial, HK2⟩
        case measure => simp [intOf]; omega
      · rw [hg] at C1
        have hRt : R = true := by
          rw [← HR.out, List.any_eq_true]
          refine ⟨x, ?_, hg⟩
          have hl : k < zs.length := by rw [Hn.out]; exact hlt
          rw [← HX.out, List.getD_eq_getElem?_getD, List.getElem?_eq_getElem hl]
          exact List.getElem_mem hl
        subst hRt
        clear HX HK hg HR
        go_wp2_with fail
        refine (C1.out _).mono ?_
        rintro e w2 ⟨rfl, rfl⟩
        go_wp2_with fail
        go_ret
        exact ⟨⟨_, rfl, by simp⟩, by first | rfl | trivial⟩
    · have hlt' : ¬ (k : Int) < (n : Int) := by omega
      have hRf : R = false := by
        rw [← HR.out, List.any_eq_false]
        intro y hy
        obtain ⟨i, hi, rfl⟩ := List.getElem_of_mem hy
        have := HK.out.2 i (by have := Hn.out; omega)
        rw [List.getD_eq_getElem?_getD, List.getElem?_eq_getElem hi] at this
        simpa using this
      subst hRf
      clear HR HK
      go_wp2_with fail
      go_ret
      exact ⟨⟨_, rfl, by decide⟩, by first | rfl | trivial⟩
theorem contains_any (a : Option Addr) (n c : Nat) (zs : List Int) (w : World) (hn : zs.length = n) (h1 : n ≤ 1048576) (hA : Lst w a zs) :
    Calls Tryd.prog 41 #[.slice a n c, .func (.func 42) #[] #[]] w fun e w' => e = .returned (.bool (zs.any noG)) ∧ w' = w := by
  have C := hide (index_any a n c zs w hn h1 hA)
  generalize zs.any noG = R at *
  clear hA hn h1
  go_enter Tryd.func41, Tryd.ntmps41
  go_wp2_with fail
  refine C.out.mono ?_
  rintro e w2 ⟨⟨z, rfl, hz⟩, rfl⟩
  go_wp2_with fail
  go_ret
  exact ⟨by first | rfl | rw [hz], rfl⟩
end Go.Proofs.YthhhepbflggojaaDoor.E15
