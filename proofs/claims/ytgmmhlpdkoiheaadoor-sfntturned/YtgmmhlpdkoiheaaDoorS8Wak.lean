/-
  What the landed Build answers of one table; the law's wakes.
-/
import Derived.Test.YtgmmhlpdkoiheaaDoorS8Bld
namespace Go.Proofs.YtgmmhlpdkoiheaaDoor
open Go.RowKit Go.Deep
set_option linter.unusedVariables false
set_option linter.unusedSimpArgs false

set_option maxRecDepth 8000 in
set_option maxHeartbeats 1000000 in
theorem build_one (g c : Nat) (x : ByteArray) (hx : x.size = 1) (hsum : sumV x.data.toList = 2013265920) (w : World) (hG : Glo8 w) (hg : g < w.heap.size) (h0 : w.cell? ⟨g, 0, none⟩ = some (.string abcd)) (h1 : w.cell? ⟨g, 1, none⟩ = some (.string x)) :
    Calls Tryd.prog 19 #[.slice (some ⟨g, 0, none⟩) 1 c] w fun e w' => e = .returned (.tuple #[.string ⟨(T32 x).toArray⟩, .int .i64 0]) ∧ Below w.heap.size w w' := by
  have CC := hide (clones_one g c x w hg h0 h1)
  have CL := hide (fun g c w hg h0 h1 => lay_one g c x hx w hg h0 h1)
  have CW := hide (fun g c b cap w hg h1 hC hG => write_one g c b cap x hx hsum w hg h1 hC hG)
  have HG := hide hG
  clear hG hg h0 h1 hsum
  go_enter Tryd.func19, Tryd.ntmps19
  go_wp2_with fail
  refine CC.out.mono ?_
  rintro e w1 ⟨b, cap, rfl, hT, hB1⟩
  have hlt : b < w1.heap.size := (World.ownsRow.lt hT b rfl).2
  have t0 : w1.cell? ⟨b, 0, none⟩ = some (.string abcd) := TbRow.cell (l := [(abcd, x)]) hT 0 (by simp)
  have t1 : w1.cell? ⟨b, 1, none⟩ = some (.string x) := TbRow.cell (l := [(abcd, x)]) hT 1 (by simp)
  have CL1 := hide (CL.out b cap w1 hlt t0 t1)
  have HT1 := hide (And.intro hlt t1)
  have HB1 := hide hB1
  clear hT hB1 hlt t0 t1
  go_wp2_with fail
  refine (sort_one _ _ _ _).mono ?_
  rintro e w' ⟨rfl, hw'⟩
  replace hw' := hw'.symm
  subst hw'
  go_wp2_with fail
  refine CL1.out.mono ?_
  rintro e w2 ⟨r, rc, rfl, hC2, hB2⟩
  have CW2 := hide (CW.out b cap r rc w2 (Nat.lt_of_lt_of_le HT1.out.1 hB2.size) ((hB2.cell (p := ⟨b, 1, none⟩) HT1.out.1).trans HT1.out.2) hC2 (HG.out.below (below_t5 HB1.out hB2)))
  have HB2 := hide (below_t5 HB1.out hB2)
  clear hC2 hB2
  go_wp2_with fail
  refine CW2.out.mono ?_
  rintro e w3 ⟨rfl, hB3⟩
  have HB3 := hide (below_t5 HB2.out hB3)
  clear hB3
  go_wp2_with fail
  go_ret2
  exact ⟨rfl, HB3.out⟩
abbrev xS : ByteArray := ⟨#[120]⟩
theorem t32_eq : (⟨(T32 xS).toArray⟩ : ByteArray) = F32 := by decide +kernel
set_option maxRecDepth 8000 in
set_option maxHeartbeats 1000000 in
theorem wakes8_any (w : World) (hG : Glo8 w) : Calls Tryd.prog 9 #[] w fun e w' => e = .returned (.bool true) ∧ Below w.heap.size w w' := by
  have hx : xS.size = 1 := by decide
  have hsum : sumV xS.data.toList = 2013265920 := by decide +kernel
  have hal := (Below.refl w.heap.size w).alloc (Nat.le_refl _) (.cells #[.string abcd, .string xS] 43)
  have k := Blk.new w #[.string abcd, .string xS] 43
  have CB := hide (build_one w.heap.size 1 xS hx hsum _ (hG.below hal) k.lt (k.cell 0) (k.cell 1))
  rw [t32_eq] at CB
  have CR := hide (fun w hg => read_one F32 xS f32_one (by decide +kernel) hsum hx w hg)
  have CS := hide (show ∀ w, Calls Tryd.prog 10 #[.string abcd] w fun e w' => e = .returned (.int .i64 1633837924) ∧ w' = w from fun w => by
    have h := sum_any abcd w (by decide)
    have e : sumV abcd.data.toList = 1633837924 := by decide +kernel
    rw [e] at h
    exact h)
  have h32 : F32.size = 32 := by decide
  have HG := hide hG
  have HA0 := hide hal
  clear k hal hsum hG
  generalize F32 = f at CB CR h32
  have h32' : (f.size : Int) = 32 := by omega
  go_enter Tryd.func9, Tryd.ntmps9
  go_wp2_with fail
  refine CB.out.mono ?_
  rintro e w1 ⟨rfl, hB1⟩
  have CR1 := hide (CR.out w1 (HG.out.below (below_t5 HA0.out hB1)))
  have HB1 := hide (below_t5 HA0.out hB1)
  clear hB1
  go_wp2_with fail
  refine CR1.out.mono ?_
  rintro e w2 ⟨g, cap, rfl, hT, hB2⟩
  have t1 : w2.cell? ⟨g, 1, none⟩ = some (.string xS) := TbRow.cell (l := [(abcd, xS)]) hT 1 (by decide)
  have HB2 := hide (below_t5 HB1.out hB2)
  clear hT hB2
  go_wp2_with (go_at_call 10; refine (CS.out _).mono ?_; rintro e w' ⟨rfl, hw'⟩; replace hw' := hw'.symm; subst hw')
  go_ret
  exact ⟨rfl, HB2.out⟩
end Go.Proofs.YtgmmhlpdkoiheaaDoor
