/-
  What the law's wakes answers: true.
-/
import Derived.Test.YtjacjdglklcijaaDoorG10Sp
namespace Go.Proofs.YtjacjdglklcijaaDoor
open Go.RowKit Go.Deep
set_option linter.unusedVariables false
set_option linter.unusedSimpArgs false

abbrev dotS : ByteArray := ⟨#[0, 1, 0, 0, 0, 0, 0, 0, 0, 0, 0, 0, 0, 0, 55, 5, 7]⟩
theorem dot_any (w : World) : Calls Tryd.prog 14 #[] w fun e w' => e = .returned (.string dotS) ∧ w' = w := by
  go_enter Tryd.func14, Tryd.ntmps14
  go_wp2_with fail
  go_ret
  exact ⟨rfl, rfl⟩
theorem dot_sh : shV dotS.data.toList = some (1, []) := by decide +kernel
theorem x_sh : shV (⟨#[120]⟩ : ByteArray).data.toList = none := by decide +kernel
theorem ab_spl : splB (⟨#[0, 0, 0, 1, 0, 1]⟩ : ByteArray).data.toList (⟨#[97, 98]⟩ : ByteArray).size 2 false = true := by decide +kernel
theorem ab_val : splV (⟨#[0, 0, 0, 1, 0, 1]⟩ : ByteArray).data.toList ⟨#[97, 98]⟩ 2 false = [⟨#[97, 98]⟩, ⟨#[]⟩] := by decide +kernel
theorem two_texts (W : World) (H : Nat) (hH : W.heap.size = H) : SLst (W.alloc (.cells #[.string ⟨#[97, 98]⟩, .string ⟨#[]⟩] 9)) (some ⟨H, 0, none⟩) [⟨#[97, 98]⟩, ⟨#[]⟩] := by
  subst hH
  refine Or.inr ⟨W.heap.size, 0, rfl, by simp, fun i hi => ?_⟩
  rw [World.cell?_alloc_at _ _ _ _ rfl]
  match i, hi with
  | 0, _ => rfl
  | 1, _ => rfl
set_option maxRecDepth 8000 in
set_option maxHeartbeats 1000000 in
theorem wakes_any (w : World) : Calls Tryd.prog 6 #[] w fun e w' => e = .returned (.bool true) ∧ Below w.heap.size w w' := by
  have CD := hide dot_any
  have CP := hide (fun w => points_any dotS w (by decide))
  rw [dot_sh] at CP
  have CS := hide (fun w => split_any ⟨#[0, 0, 0, 1, 0, 1]⟩ ⟨#[97, 98]⟩ 2 false w (by decide) (by decide) (by omega) (by omega))
  have CC := hide (fun w => check_any ⟨#[120]⟩ w (by decide))
  rw [x_sh] at CC
  go_enter Tryd.func6, Tryd.ntmps6
  go_wp2_with fail
  refine (CD.out _).mono ?_
  rintro e wy ⟨rfl, hy⟩
  subst wy
  go_wp2_with fail
  refine (CP.out _).mono ?_
  rintro e w1 ⟨rfl, h1⟩
  have H1 := hide h1
  clear h1
  go_wp2_with fail
  refine (CS.out _).mono ?_
  intro e w2 h2
  unfold SpR at h2
  rw [ab_spl, if_pos rfl] at h2
  obtain ⟨q, rfl, h3, h4⟩ := h2
  rw [show (2 : Int).toNat = 2 from rfl] at h3 ⊢
  rw [ab_val] at h3
  have H2 := hide (below_t5 H1.out h4)
  have H3 := hide h3
  clear h3 h4 H1
  go_wp2_with fail
  have hb := (Below.refl w2.heap.size w2).alloc (Nat.le_refl _) (.cells #[.string ⟨#[97, 98]⟩, .string ⟨#[]⟩] 9)
  refine (ktexts_any _ _ 2 _ _ [⟨#[97, 98]⟩, ⟨#[]⟩] _ rfl (by omega) (H3.out.below hb) (two_texts w2 w2.heap.size rfl)).mono ?_
  rintro e w3 ⟨rfl, m, hw⟩
  subst hw
  have H4 := hide (below_drewN (below_t5 H2.out hb) m)
  clear hb
  go_wp2_with fail
  refine (CC.out _).mono ?_
  rintro e w4 ⟨rfl, h5⟩
  have H5 := hide (below_t5 H4.out h5)
  clear h5
  go_wp2_with fail
  go_ret
  exact ⟨rfl, H5.out⟩
end Go.Proofs.YtjacjdglklcijaaDoor
