/-
  What the landed Same and the reference's answer of any two lists of marks.
-/
import Derived.Test.YthhhepbflggojaaDoorE15K
import Derived.Deep.RegionHeld3
namespace Go.Proofs.YthhhepbflggojaaDoor.E15
open Go.RowKit Go.Deep
set_option linter.unusedVariables false
set_option linter.unusedSimpArgs false
set_option maxRecDepth 8000

theorem bdr {B : Nat} {w u : World} (h : Below B w u) : Below B w u.drew := h.drew
theorem ba {B : Nat} {w u : World} (h : Below B w u) (o : Obj) (hB : B ≤ u.heap.size) : Below B w (u.alloc o) := h.alloc hB o
theorem alL_len : ∀ (xs ys : List Mk), xs.length ≠ ys.length → alL xs ys = false
  | [], [], h => absurd rfl h
  | [], _ :: _, _ => rfl
  | _ :: _, [], _ => rfl
  | x :: xs, y :: ys, h => by
    rw [alL, alL_len xs ys (by simpa using h), Bool.and_false]
set_option maxHeartbeats 4000000 in
theorem equal_core (a a' : Option Addr) (n c c' : Nat) (ms ns : List Mk) (R : Bool) (w : World) (hn : ms.length = n) (hn' : ns.length = n) (h1 : n ≤ 1000000) (hg : ∀ m ∈ ms, m.gs.length ≤ 1048576) (hg' : ∀ m ∈ ns, m.gs.length ≤ 1048576) (hL : MLst w a ms) (hL' : MLst w a' ns) (hR : alL ms ns = R) :
    Calls Tryd.prog 18 #[.slice a n c, .slice a' n c', .func (.func 19) #[] #[]] w fun e w' => e = .returned (.bool R) ∧ Below w.heap.size w w' := by
  have h5 : (n : Int) ≤ 1000000 := by omega
  have t0 : ((n : Int) != (n : Int)) = false := by simp
  have Hn := hide hn
  have Hn' := hide hn'
  have HG := hide hg
  have HG' := hide hg'
  have HL := hide hL
  have HL' := hide hL'
  have HR := hide hR
  clear hn hn' hg hg' hL hL' hR h1
  go_enter Tryd.func18, Tryd.ntmps18
  go_wp2_with fail
  go_loopw [17] (fun vi wr => ∃ (k : Nat), vi = .int .i64 k ∧ Hid (k ≤ n ∧ Below w.heap.size w wr ∧ alL (ms.drop k) (ns.drop k) = R)) (fun vi _ => n - (intOf vi).toNat)
  case atStart => exact ⟨0, rfl, hide ⟨by omega, Below.refl _ _, by rw [List.drop_zero, List.drop_zero]; exact HR.out⟩⟩
  case round =>
    clear HR
    obtain ⟨k, rfl, HK⟩ := hrel
    obtain ⟨hk, hb, hR⟩ := HK.out
    have hk0 : (0 : Int) ≤ (k : Int) := by omega
    clear HK
    by_cases hlt : k < n
    case neg =>
      have hlt' : ¬ (k : Int) < (n : Int) := by omega
      rw [List.drop_eq_nil_of_le (by rw [Hn.out]; omega), List.drop_eq_nil_of_le (by rw [Hn'.out]; omega)] at hR
      obtain rfl : true = R := hR
      have HB := hide hb
      clear hb
      go_wp2_with fail
      go_ret
      exact ⟨rfl, HB.out⟩
    have hlt' : (k : Int) < (n : Int) := by omega
    have hl := Hn.out
    have hl' := Hn'.out
    rw [drop_ms ms k (by omega), drop_ms ns k (by omega), alL] at hR
    have hgs1 := HG.out _ (gd_mem (show k < ms.length by omega))
    obtain ⟨p1, o1, rfl, hbl1, ga1, gc1, hM1⟩ := (HL.out.below hb).some (show k < ms.length by omega)
    generalize ms.getD k m0 = m1 at *
    have hgs2 := HG'.out _ (gd_mem (show k < ns.length by omega))
    obtain ⟨p2, o2, rfl, hbl2, ga2, gc2, hM2⟩ := (HL'.out.below hb).some (show k < ns.length by omega)
    generalize ns.getD k m0 = m2 at *
    have C := hide (fun (u : World) (hu : Below wr.heap.size wr u) => alike_any m1 m2 ga1 ga2 m1.gs.length m2.gs.length gc1 gc2 u rfl rfl hgs1 hgs2 (hM1.lst.below hu) (hM2.lst.below hu))
    have HM1 := hide (fun (u : World) (hu : Below wr.heap.size wr u) => hM1.below hbl1 hu)
    have HM2 := hide (fun (u : World) (hu : Below wr.heap.size wr u) => hM2.below hbl2 hu)
    obtain ⟨e0, e1, e2, e3, e4, e5, e6, e7, e8, e9, _⟩ := hM1
    obtain ⟨i0, i1, i2, i3, i4, i5, i6, i7, i8, i9, _⟩ := hM2
    obtain ⟨K1, f1, s1, x1, y1, gs1, a1, b1, c1, d1⟩ := m1
    obtain ⟨K2, f2, s2, x2, y2, gs2, a2, b2, c2, d2⟩ := m2
    simp only [mcs] at *
    generalize hA : alB ⟨K1, f1, s1, x1, y1, gs1, a1, b1, c1, d1⟩ ⟨K2, f2, s2, x2, y2, gs2, a2, b2, c2, d2⟩ = A at *
    clear hA
    obtain ⟨gn1, hgn1⟩ : ∃ q, gs1.length = q := ⟨_, rfl⟩
    obtain ⟨gn2, hgn2⟩ : ∃ q, gs2.length = q := ⟨_, rfl⟩
    simp only [hgn1] at C e5
    simp only [hgn2] at C i5
    have HGN := hide (And.intro hgn1 hgn2)
    clear hgn1 hgn2
    have HB := hide hb
    have HRR := hide hR
    clear hb hR hgs1 hgs2 hl hl'
    have hal := hide (((Below.refl wr.heap.size wr).alloc (Nat.le_refl _) (.cells #[.int .i64 K1, .int .i64 f1, .int .i64 s1, .int .i64 x1, .int .i64 y1, .slice ga1 gn1 gc1, .int .i64 a1, .int .i64 b1, .int .i64 c1, .int .i64 d1] 38)).alloc (by simp) (.cells #[.int .i64 K2, .int .i64 f2, .int .i64 s2, .int .i64 x2, .int .i64 y2, .slice ga2 gn2 gc2, .int .i64 a2, .int .i64 b2, .int .i64 c2, .int .i64 d2] 38))
    cases A
    · have hR := HRR.out
      simp only [Bool.false_and] at hR
      obtain rfl : false = R := hR
      clear HRR
      clear HM1
      clear HM2
      go_wp2_with fail
      refine (C.out _ hal.out).mono ?_
      rintro e w3 ⟨rfl, h3⟩
      have HB3 := hide (below_t5 (below_t5 HB.out hal.out) h3)
      clear h3 e0 e1 e2 e3 e4 e5 e6 e7 e8 e9 i0 i1 i2 i3 i4 i5 i6 i7 i8 i9
      go_wp2_with fail
      go_ret
      exact ⟨rfl, HB3.out⟩
    · have hR := HRR.out
      simp only [Bool.true_and] at hR
      have HR3 := hide hR
      clear hR HRR
      clear HM1
      clear HM2
      go_wp2_with fail
      refine (C.out _ hal.out).mono ?_
      rintro e w3 ⟨rfl, h3⟩
      have HB3 := hide (below_t5 (below_t5 HB.out hal.out) h3)
      clear h3 e0 e1 e2 e3 e4 e5 e6 e7 e8 e9 i0 i1 i2 i3 i4 i5 i6 i7 i8 i9
      go_wp2_with fail
      go_roundw
      case rel => exact ⟨k + 1, by go_num, hide ⟨by omega, HB3.out, HR3.out⟩⟩
      case measure => simp [intOf]; omega
theorem equal_any (a a' : Option Addr) (n n' c c' : Nat) (ms ns : List Mk) (w : World) (hn : ms.length = n) (hn' : ns.length = n') (h1 : n ≤ 1000000) (h2 : n' ≤ 1000000) (hg : ∀ m ∈ ms, m.gs.length ≤ 1048576) (hg' : ∀ m ∈ ns, m.gs.length ≤ 1048576) (hL : MLst w a ms) (hL' : MLst w a' ns) :
    Calls Tryd.prog 18 #[.slice a n c, .slice a' n' c', .func (.func 19) #[] #[]] w fun e w' => e = .returned (.bool (alL ms ns)) ∧ Below w.heap.size w w' := by
  by_cases h : n = n'
  · subst h
    exact equal_core a a' n c c' ms ns _ w hn hn' h1 hg hg' hL hL' rfl
  · rw [alL_len ms ns (by omega)]
    have t0 : ((n : Int) != (n' : Int)) = true := by simp; omega
    clear hn hn' hg hg' hL hL'
    go_enter Tryd.func18, Tryd.ntmps18
    go_wp2_with fail
    go_ret
    exact ⟨rfl, Below.refl _ _⟩
theorem same_any (a a' : Option Addr) (n n' c c' : Nat) (ms ns : List Mk) (w : World) (hn : ms.length = n) (hn' : ns.length = n') (h1 : n ≤ 1000000) (h2 : n' ≤ 1000000) (hg : ∀ m ∈ ms, m.gs.length ≤ 1048576) (hg' : ∀ m ∈ ns, m.gs.length ≤ 1048576) (hL : MLst w a ms) (hL' : MLst w a' ns) :
    Calls Tryd.prog 11 #[.slice a n c, .slice a' n' c'] w fun e w' => e = .returned (.bool (alL ms ns)) ∧ Below w.heap.size w w' := by
  have C := hide (equal_any a a' n n' c c' ms ns w hn hn' h1 h2 hg hg' hL hL')
  clear hn hn' hg hg' hL hL' h1 h2
  go_enter Tryd.func11, Tryd.ntmps11
  go_wp2_with fail
  refine C.out.mono ?_
  rintro e w2 ⟨rfl, h2⟩
  have HB := hide h2
  clear h2
  go_wp2_with fail
  go_ret
  exact ⟨rfl, HB.out⟩
end Go.Proofs.YthhhepbflggojaaDoor.E15
