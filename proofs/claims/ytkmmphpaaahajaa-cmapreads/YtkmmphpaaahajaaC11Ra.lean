/-
  What the reference's add, U2 and U4 answer.
-/
import Derived.Test.YtkmmphpaaahajaaC11T
import Derived.BigQuiet
namespace Go.Proofs.Ytkmmphpaaahajaa
open Go.RowKit Go.Deep
set_option linter.unusedVariables false
set_option linter.unusedSimpArgs false

def AdR (w : World) (B : Nat) (R : Option (List Ch)) (e : Ending) (w' : World) : Prop := match R with
  | some cs => ∃ v, e = .returned (.tuple #[v, .bool true]) ∧ CRow w' B v cs ∧ Below B w w'
  | none => e = .returned (.tuple #[.slice none 0 0, .bool false]) ∧ Below B w w'
set_option maxRecDepth 8000 in
set_option maxHeartbeats 2000000 in
theorem radd_any (B : Nat) (v : Value) (c g : Int) (cs : List Ch) (w : World) (hr : CRow w B v cs) (hB : B ≤ w.heap.size) (bd : BD cs) (g0 : 0 ≤ g) (g1 : g ≤ 4294967296) (hc0 : 0 ≤ c) (hc1 : c ≤ 1114111) :
    Calls Try.prog 40 #[v, .int .i64 c, .int .i64 g] w (AdR w B (stP cs c g)) := by
  have CI := hide (ris_any c)
  by_cases hz : g = 0
  · subst hz
    have hv : stP cs c 0 = some cs := by unfold stP; split <;> simp [addC_zero]
    rw [hv]
    have HR := hide hr
    clear hr bd hv
    go_enter Try.func40, Try.ntmps40
    go_wp2_with fail
    go_ret2
    exact ⟨_, rfl, HR.out, Below.refl _ _⟩
  have hz' : (g == 0) = false := by simpa using hz
  cases hp : isP c
  · have hv : stP cs c g = some cs := by unfold stP; rw [hp]; rfl
    rw [hv]
    rw [hp] at CI
    have HR := hide hr
    clear hr bd hv hp hz
    go_enter Try.func40, Try.ntmps40
    go_wp2_with fail
    refine (CI.out _).mono ?_
    rintro e w1 ⟨rfl, hw⟩
    subst hw
    go_wp2_with fail
    go_ret2
    exact ⟨_, rfl, HR.out, Below.refl _ _⟩
  have hv : stP cs c g = addC cs c g := by unfold stP; rw [hp]; rfl
  rw [hv]
  rw [hp] at CI
  clear hv hp
  rcases List.eq_nil_or_concat cs with rfl | ⟨ini, x, rfl⟩
  · rw [addC_nil c g hz]
    obtain ⟨a, cap, rfl⟩ := hr.emp
    have HR := hide hr
    have HBB := hide hB
    clear hr bd hz hB
    go_enter Try.func40, Try.ntmps40
    go_wp2_with fail
    refine (CI.out _).mono ?_
    rintro e w1 ⟨rfl, hw⟩
    replace hw := hw.symm
    subst hw
    go_wp2_with fail
    go_quiet (fail)
    obtain ⟨v2, w2, hrun, hr2, hb2, _, _⟩ := app_c (W := w.drewN nq) (B := B) c c g HR.out HBB.out (by simp)
    rw [List.nil_append] at hr2
    have HRUN := hide hrun
    have HR2 := hide hr2
    have HB2 := hide (show Below B w w2 from ⟨hb2.os, hb2.tape, hb2.output, hb2.size, hb2.block⟩)
    clear hrun hr2 hb2
    go_wp2_with (at_builtin; refine Lib.wpList_append_run _ rfl _ _ _ _ rfl _ _ rfl rfl _ _ HRUN.out ?_)
    go_ret2
    exact ⟨_, rfl, HR2.out, HB2.out⟩
  rw [List.concat_eq_append] at *
  obtain ⟨l1, x1, x2, x3, x4, x5⟩ := bd.last
  obtain ⟨gr, cap, rfl, hgr, hgl⟩ := hr.shape (by simp)
  have hlen : (ini ++ [x]).length = ini.length + 1 := by simp
  obtain ⟨⟨d0, d1, d2⟩, df⟩ := hr.cell rfl ini.length (by simp)
  have hx : (ini ++ [x]).getD ini.length c0 = x := by simp [List.getD_eq_getElem?_getD]
  rw [hx] at d0 d1 d2
  have HR := hide hr
  have HBB := hide hB
  have n1 : (ini.length : Int) ≤ 4095 := by omega
  have n0 : (0 : Int) ≤ (ini.length : Int) := by omega
  have w1 : IntKind.i64.wrap (c - 1) = c - 1 := by rw [IntKind.wrap_i64]; omega
  have w2 : IntKind.i64.wrap (x.g + x.l) = x.g + x.l := by rw [IntKind.wrap_i64]; omega
  have w3 : IntKind.i64.wrap (x.g + x.l - x.f) = x.g + x.l - x.f := by rw [IntKind.wrap_i64]; omega
  have w4 : IntKind.i64.wrap (x.g + x.l - x.f + 1) = x.g + x.l - x.f + 1 := by rw [IntKind.wrap_i64]; omega
  have HAD := hide (And.intro (addC_new ini x c g hz) (addC_full ini x c g hz))
  have HAG := hide (addC_go ini x c g hz)
  have HGB := hide (@goB_f x c g)
  have HGT := hide (@goB_t x c g)
  rw [hlen]
  obtain ⟨N, hN⟩ : ∃ N, ini.length = N := ⟨_, rfl⟩
  have HNN := hide hN
  rw [hN] at d0 d1 d2 df n1 n0 HAD l1 ⊢
  obtain ⟨xf, xl, xg⟩ := x
  simp only at d0 d1 d2 w2 w3 w4 HGB HGT x1 x2 x3 x4 x5
  generalize addC (ini ++ [⟨xf, xl, xg⟩]) c g = RR at HAD HAG ⊢
  generalize goB ⟨xf, xl, xg⟩ c g = GO at *
  have hful : (((N : Int) + 1 == 4096) = true ∧ ¬ N + 1 < 4096) ∨ (((N : Int) + 1 == 4096) = false ∧ N + 1 < 4096) := by
    by_cases h : N + 1 = 4096
    · exact Or.inl ⟨by simp; omega, by omega⟩
    · exact Or.inr ⟨by simp; omega, by omega⟩
  have HFU := hide hful
  clear hr bd hz hB hlen hx hN x1 x2 x3 x4 x5 hful
  by_cases t1 : xl = c - 1
  · have t1' : (xl == c - 1) = true := by simpa using t1
    by_cases t2 : xg + xl - xf + 1 = g
    · have t2' : (xg + xl - xf + 1 == g) = true := by simpa using t2
      have E := hide (HAG.out (HGT.out.2 ⟨by omega, by omega⟩))
      clear t1 t2 HAD HAG HGB HGT HFU
      go_enter Try.func40, Try.ntmps40
      go_wp2_with fail
      refine (CI.out _).mono ?_
      rintro e wz ⟨rfl, hw⟩
      replace hw := hw.symm
      subst hw
      go_wp2_with fail
      go_quiet (fail)
      have HS := hide (show CRow (w.setCell ⟨gr, N * 3 + 1, none⟩ (.int .i64 c)) B (.slice (some ⟨gr, 0, none⟩) (N + 1) cap) (ini ++ [⟨xf, c, xg⟩]) by
        have := HR.out.stored ⟨xf, xl, xg⟩ c rfl
        rw [HNN.out] at this
        have e : (ini ++ [(⟨xf, xl, xg⟩ : Ch)]).length = N + 1 := by rw [List.length_append, HNN.out]; rfl
        rw [e] at this
        exact this)
      have HT := hide (show Below B w (w.setCell ⟨gr, N * 3 + 1, none⟩ (.int .i64 c)) from (Below.refl B w).setCell (p := ⟨gr, N * 3 + 1, none⟩) hgr _)
      go_wp2_with fail
      go_ret2
      rw [E.out]
      exact ⟨_, rfl, HS.out, HT.out.os, HT.out.tape, HT.out.output, HT.out.size, HT.out.block⟩
    · have t2' : (xg + xl - xf + 1 == g) = false := by simpa using t2
      have E := hide (HGB.out.2 (fun h => t2 (by omega)))
      clear t1 t2 HAG HGB HGT
      go_enter Try.func40, Try.ntmps40
      go_wp2_with fail
      refine (CI.out _).mono ?_
      rintro e wz ⟨rfl, hw⟩
      replace hw := hw.symm
      subst hw
      go_wp2_with fail
      go_quiet (fail)
      rcases HFU.out with ⟨f1, f2⟩ | ⟨f1, f2⟩
      · have E2 := hide (HAD.out.2 E.out f2)
        clear f2 HFU HAD
        go_wp2_with fail
        go_ret2
        rw [E2.out]
        exact ⟨rfl, below_drewN (Below.refl _ _) _⟩
      · have E2 := hide (HAD.out.1 E.out f2)
        have hl : (ini ++ [(⟨xf, xl, xg⟩ : Ch)]).length = N + 1 := by rw [List.length_append, HNN.out]; rfl
        obtain ⟨v2, w5, hrun, hr2, hb2, _, _⟩ := app_c (W := w.drewN nq) (B := B) c c g HR.out HBB.out (by rw [hl]; omega)
        rw [hl] at hrun
        have HRUN := hide hrun
        have HR2 := hide hr2
        have HB2 := hide (show Below B w w5 from ⟨hb2.os, hb2.tape, hb2.output, hb2.size, hb2.block⟩)
        clear hrun hr2 hb2 f2 HFU HAD hl
        go_wp2_with (at_builtin; refine Lib.wpList_append_run _ rfl _ _ _ _ rfl _ _ rfl rfl _ _ HRUN.out ?_)
        go_ret2
        rw [E2.out]
        exact ⟨_, rfl, HR2.out, HB2.out⟩
  · have t1' : (xl == c - 1) = false := by simpa using t1
    have E := hide (HGB.out.2 (fun h => t1 (by omega)))
    clear t1 HAG HGB HGT
    go_enter Try.func40, Try.ntmps40
    go_wp2_with fail
    refine (CI.out _).mono ?_
    rintro e wz ⟨rfl, hw⟩
    replace hw := hw.symm
    subst hw
    go_wp2_with fail
    go_quiet (fail)
    rcases HFU.out with ⟨f1, f2⟩ | ⟨f1, f2⟩
    · have E2 := hide (HAD.out.2 E.out f2)
      clear f2 HFU HAD
      go_wp2_with fail
      go_ret2
      rw [E2.out]
      exact ⟨rfl, below_drewN (Below.refl _ _) _⟩
    · have E2 := hide (HAD.out.1 E.out f2)
      have hl : (ini ++ [(⟨xf, xl, xg⟩ : Ch)]).length = N + 1 := by rw [List.length_append, HNN.out]; rfl
      obtain ⟨v2, w5, hrun, hr2, hb2, _, _⟩ := app_c (W := w.drewN nq) (B := B) c c g HR.out HBB.out (by rw [hl]; omega)
      rw [hl] at hrun
      have HRUN := hide hrun
      have HR2 := hide hr2
      have HB2 := hide (show Below B w w5 from ⟨hb2.os, hb2.tape, hb2.output, hb2.size, hb2.block⟩)
      clear hrun hr2 hb2 f2 HFU HAD hl
      go_wp2_with (at_builtin; refine Lib.wpList_append_run _ rfl _ _ _ _ rfl _ _ rfl rfl _ _ HRUN.out ?_)
      go_ret2
      rw [E2.out]
      exact ⟨_, rfl, HR2.out, HB2.out⟩
end Go.Proofs.Ytkmmphpaaahajaa
